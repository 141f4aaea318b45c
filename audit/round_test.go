package audit_test

import (
	"testing"

	"rutter/api"
	"rutter/audit"
	"rutter/world"
)

// kinds are packets', and some that are none's.
func kinds() []api.Kind {
	l := []api.Kind{api.Normal, api.Forward}
	for _, n := range noDeeds() {
		l = append(l, api.Kind(n))
	}
	return l
}

// TestRoundOfAGuest: P21.1: a guest's frame, of which each of Origin and From is its chassis, or isn't; whatever its kind, and what became of it.
func TestRoundOfAGuest(t *testing.T) {
	for _, done := range []int{-1, 0, 1, 2, 3} {
		for _, kind := range kinds() {
			for _, n := range edges() {
				x := world.Event{What: 1, Chassis: n, Kind: kind, ID: 7, Origin: n, From: n, Done: done, To: 77}
				right(t, x)
				for _, m := range edges() {
					if m != n {
						wrong(t, audit.Round, changed(x, func(x *world.Event) { x.Origin = m }))
						wrong(t, audit.Round, changed(x, func(x *world.Event) { x.From = m }))
						wrong(t, audit.Round, changed(x, func(x *world.Event) { x.Origin, x.From = m, m }))
						wrong(t, audit.Round, changed(x, func(x *world.Event) { x.Chassis = m }))
					}
				}
			}
		}
	}
}

// TestRoundOfAPacket: P21.1: a packet, with each kind: where From is Origin, it is to be Normal, where it isn't, Forward; and neither is its chassis.
func TestRoundOfAPacket(t *testing.T) {
	for _, done := range []int{-1, 0, 1, 3} {
		for _, kind := range kinds() {
			x := world.Event{What: 2, Chassis: 1, Kind: kind, ID: 7, Done: done}
			ways := []struct {
				origin, from int
				right        bool
			}{
				{0, 0, kind == api.Normal}, {2, 2, kind == api.Normal}, {-1, -1, kind == api.Normal}, {16, 16, kind == api.Normal},
				{0, 2, kind == api.Forward}, {2, 0, kind == api.Forward}, {-1, 16, kind == api.Forward},
				{1, 1, false}, {1, 0, false}, {0, 1, false}, {1, 2, false}, {2, 1, false},
			}
			for _, w := range ways {
				x.Origin, x.From = w.origin, w.from
				if w.right {
					right(t, x)
				} else {
					wrong(t, audit.Round, x)
				}
			}
		}
	}
}

// TestRoundOfAny: P21.1: a packet of any numbers, of which those of both ways that are right are told one by one.
func TestRoundOfAny(t *testing.T) {
	for _, n := range edges() {
		for _, origin := range edges() {
			for _, from := range edges() {
				for _, kind := range kinds() {
					x := world.Event{What: 2, Chassis: n, Kind: kind, ID: 7, Origin: origin, From: from}
					straight := kind == api.Normal && origin == from && from != n
					around := kind == api.Forward && origin != from && from != n && origin != n
					if straight || around {
						right(t, x)
					} else {
						wrong(t, audit.Round, x)
					}
				}
			}
		}
	}
}

// TestRoundOfLooks: P21.1: what is no look goes nowhere, so that it is never wrong by its way.
func TestRoundOfLooks(t *testing.T) {
	for _, what := range noLooks() {
		for _, kind := range kinds() {
			for n := range 3 {
				for m := range 3 {
					right(t, world.Event{What: what, Chassis: 1, Kind: kind, ID: 7, Origin: n, From: m})
				}
			}
		}
	}
}
