package audit_test

import (
	"math"
	"slices"
	"testing"

	"rutter/audit"
	"rutter/world"
)

// ids are any, also such as no world tells.
func ids() []int { return append(edges(), 7, math.MinInt+1, math.MaxInt-1) }

// TestOften: P21.1: an ID that is delivered once, twice, twice and doubled ahead, between, or behind.
func TestOften(t *testing.T) {
	for _, id := range ids() {
		x, y, d := homes(1, id, 3, 1), arrives(1, id, 3, 1), doubled(2, id)
		for _, l := range [][2]world.Event{{x, x}, {x, y}, {y, x}, {y, y}} {
			right(t, l[0])
			wrong(t, audit.Often, l[0], l[1])
			right(t, d, l[0], l[1])
			right(t, l[0], d, l[1])
			finds(t, 1, audit.Often, l[0], l[1], d)
		}
	}
}

// TestOftenBySoMany: P21.1: an ID that is doubled so many times is delivered once more, wherever it is doubled ahead, and not once more than that.
func TestOftenBySoMany(t *testing.T) {
	x, d := arrives(1, 7, 3, 1), doubled(1, 7)
	for n := range 9 {
		ahead := slices.Repeat([]world.Event{d}, n)
		all := append(ahead, slices.Repeat([]world.Event{x}, n+1)...)
		right(t, all...)
		wrong(t, audit.Often, append(all, x)...)
		finds(t, len(all), audit.Often, append(all, x, d, d, x)...)
		between := slices.Repeat([]world.Event{x, d}, n)
		right(t, append(between, x)...)
		wrong(t, audit.Often, append(between, x, x)...)
	}
}

// TestOftenInAnyOrder: P21.1: of all orders of deliveries and doublings of one ID, the first delivery ahead of which there are more than doublings.
func TestOftenInAnyOrder(t *testing.T) {
	for mask := range 1 << 9 {
		var l []world.Event
		at, balance := -1, 0
		for i := range 9 {
			if mask>>i&1 == 1 {
				l = append(l, doubled(i, 7))
				balance++
				continue
			}
			if l = append(l, homes(1, 7, 3, 1)); at < 0 && balance < 0 {
				at = i
			}
			balance--
		}
		if at < 0 {
			right(t, l...)
		} else {
			finds(t, at, audit.Often, l...)
		}
	}
}

// TestOftenOfOthers: P21.1: what else is delivered, or doubled, is nothing to an ID.
func TestOftenOfOthers(t *testing.T) {
	for _, id := range ids() {
		for _, other := range ids() {
			x, y := arrives(1, id, 3, 1), arrives(1, other, 3, 1)
			if id == other {
				continue
			}
			right(t, x, y)
			wrong(t, audit.Often, x, y, x)
			wrong(t, audit.Often, doubled(1, other), x, x)
			right(t, doubled(1, other), y, x, y)
			wrong(t, audit.Often, doubled(1, other), y, y, x, y)
			right(t, doubled(1, other), doubled(1, id), y, x, y, x)
		}
	}
}

// TestOftenIsDelivered: P21.1: what is sent, or dropped, was not delivered, however often it was looked at.
func TestOftenIsDelivered(t *testing.T) {
	right(t, sent(entered(0, 7), 1, 3, 1), sent(came(1, 7, 0, 0), 2, 3, 2), delivered(came(2, 7, 0, 1), 3, 2, 2))
	right(t, homes(1, 7, 3, 1), sent(entered(0, 7), 1, 3, 1), sent(entered(0, 7), 1, 3, 1), came(1, 7, 0, 0), entered(1, 7))
	for _, done := range noDeeds() {
		x := entered(0, 7)
		x.Done = done
		right(t, x, x, homes(1, 7, 3, 1), x, x)
		wrong(t, audit.Often, x, x, homes(1, 7, 3, 1), x, x, homes(1, 7, 3, 1))
	}
}

// TestOftenIsDoubled: P21.1: What 3 alone doubles, wherever, and whatever else it tells; it delivers nothing.
func TestOftenIsDoubled(t *testing.T) {
	x := homes(1, 7, 3, 1)
	for _, n := range edges() {
		d := world.Event{What: 3, Time: n, Chassis: n, ID: 7, Done: n, Port: 3, Gen: 1, Stamp: n, To: n, Origin: n, From: n}
		right(t, d, x, x)
		wrong(t, audit.Often, d, x, x, x)
		right(t, d, d, x, x, x)
	}
	for _, what := range append(noLooks(), 1, 2) {
		if what != 3 {
			d := world.Event{What: what, Chassis: 1, ID: 7, Origin: 1, From: 1}
			if what == 2 {
				d = came(1, 7, 0, 0)
			}
			wrong(t, audit.Often, d, d, x, x)
		}
	}
}
