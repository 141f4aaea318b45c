package audit_test

import (
	"fmt"
	"math"
	"slices"
	"testing"

	"rutter/api"
	"rutter/audit"
	"rutter/world"
)

// TestFaults: the numbers of the faults are the chapter's.
func TestFaults(t *testing.T) {
	for i, f := range []audit.Fault{audit.Owner, audit.Often, audit.Below, audit.Round, audit.Again} {
		if int(f) != i+1 {
			t.Errorf("%d; want %d", f, i+1)
		}
	}
}

// TestNoEvents: P21.1: with none nothing is wrong.
func TestNoEvents(t *testing.T) {
	right(t)
	right(t, []world.Event{}...)
	right(t, slices.Clone(story())[:0]...)
}

// TestStory: P21.1: nothing is wrong with what may happen, nor with any event of it alone.
func TestStory(t *testing.T) {
	l := story()
	for i, x := range l {
		right(t, l[:i]...)
		right(t, x)
	}
	right(t, l...)
}

// TestTheLeast: P21.1: an event of which all is 0 is no look; a look of which all else is 0 is right as a guest's, and wrong as a packet's, which came from where it is.
func TestTheLeast(t *testing.T) {
	right(t, world.Event{})
	right(t, world.Event{What: 1})
	right(t, world.Event{What: 1, Done: 1})
	finds(t, 0, audit.Round, world.Event{What: 2})
	finds(t, 0, audit.Again, world.Event{What: 1, Done: 2})
	right(t, world.Event{What: 3})
}

// TestTimeAndVersion: P21.1: when it was, and which version, is nothing to what is wrong.
func TestTimeAndVersion(t *testing.T) {
	for _, n := range edges() {
		for i := range story() {
			l := story()
			l[i].Time, l[i].Ver = n, -n
			right(t, l...)
		}
		for f, l := range lone() {
			l[len(l)-1].Time, l[0].Ver = n, n
			wrong(t, f, l...)
		}
	}
}

// TestNoLooks: P21.1: what is no look neither delivers nor sends, whatever else it tells: it isn't wrong, and nothing behind it is wrong by it.
func TestNoLooks(t *testing.T) {
	for _, what := range noLooks() {
		for f, l := range lone() {
			x := l[len(l)-1]
			x.What = what
			l[len(l)-1] = x
			if right(t, l...); f == audit.Owner || f == audit.Often {
				// What delivered ahead doesn't deliver there any more.
				l = lone()[f]
				l[0].What = what
				right(t, l...)
			}
		}
		for _, done := range edges() {
			right(t, world.Event{What: what, Chassis: 1, Origin: 2, From: 1, To: 1, Kind: api.Forward, Done: done, Port: 3, Gen: 1, Stamp: 2, ID: 7}, homes(2, 7, 3, 1))
		}
	}
}

// TestNoDeeds: P21.1: a look of which neither was made is no delivery, and nothing is sent by it, so that it is wrong by its way alone.
func TestNoDeeds(t *testing.T) {
	for _, done := range noDeeds() {
		for _, x := range []world.Event{entered(1, 7), came(1, 7, 0, 0), came(1, 7, 0, 2)} {
			x.Done, x.Port, x.Gen, x.Stamp = done, 3, 1, 2
			for _, to := range []int{0, 1, 2, 3} {
				x.To = to
				right(t, x)
				right(t, x, homes(2, 7, 3, 1), x)
			}
			wrong(t, audit.Round, changed(x, func(x *world.Event) { x.From = 1; x.Origin = 5 }))
		}
	}
}

// lone are, of each fault, events of which the last one has that alone, and those ahead none.
func lone() map[audit.Fault][]world.Event {
	return map[audit.Fault][]world.Event{
		audit.Owner: {homes(1, 101, 21, 1), homes(2, 102, 21, 1)},
		audit.Often: {homes(1, 101, 21, 1), homes(1, 101, 21, 1)},
		audit.Below: {delivered(entered(1, 101), 21, 1, 2)},
		audit.Round: {came(1, 101, 1, 1)},
		audit.Again: {sent(came(2, 101, 0, 1), 3, 21, 1)},
	}
}

// TestEachAlone: P21.1: each fault alone, at the first place at which it can be, at later ones, and at the last; what stands behind it is not looked at.
func TestEachAlone(t *testing.T) {
	for f, l := range lone() {
		wrong(t, f, l...)
		finds(t, len(l)-1, f, append(l, story()...)...)
		for i := range len(story()) + 1 {
			all := slices.Insert(story(), i, l...)
			finds(t, i+len(l)-1, f, all...)
			wrong(t, f, all[:i+len(l)]...)
		}
	}
}

// TestApartByOthers: P21.1: what is wrong by one ahead is so however much stands between.
func TestApartByOthers(t *testing.T) {
	for _, f := range []audit.Fault{audit.Owner, audit.Often} {
		l := lone()[f]
		for i := range len(story()) + 1 {
			for j := range i + 1 {
				all := slices.Insert(slices.Insert(story(), i, l[1]), j, l[0])
				finds(t, i+1, f, all...)
			}
		}
	}
}

// worse makes an event wrong by a fault, behind lone events of owner 5, and of ID 7.
func worse(x *world.Event, f audit.Fault) {
	switch f {
	case audit.Owner:
		x.Port, x.Gen, x.Stamp = 3, 4, 4
	case audit.Often:
		x.ID = 7
	case audit.Below:
		x.Stamp = x.Gen + 1
	case audit.Round:
		x.From = x.Chassis
	case audit.Again:
		x.To = x.Chassis
	}
}

// TestTheFirstOfTheTable: P21.1: of several faults of one event the first of the table is told. (What delivers doesn't send, so that the last one is alone, or with the one ahead of it.)
func TestTheFirstOfTheTable(t *testing.T) {
	ahead := []world.Event{homes(5, 6, 3, 4), homes(5, 7, 3, 5)}
	for mask := range 1 << 4 {
		x, first := delivered(came(1, 8, 9, 9), 3, 6, 6), nothing
		for f := audit.Round; f >= audit.Owner; f-- {
			if mask>>(f-1)&1 == 1 {
				first = f
			}
		}
		for f := audit.Owner; f <= audit.Round; f++ {
			if mask>>(f-1)&1 == 1 {
				worse(&x, f)
			}
		}
		if first == nothing {
			right(t, append(ahead, x)...)
		} else {
			wrong(t, first, append(ahead, x)...)
		}
	}
	for _, x := range []world.Event{sent(came(1, 8, 9, 9), 2, 3, 4), sent(came(1, 8, 9, 7), 2, 3, 4), sent(entered(1, 8), 2, 3, 4)} {
		worse(&x, audit.Again)
		wrong(t, audit.Again, append(ahead, x)...)
		if x.What == 2 {
			worse(&x, audit.Round)
		} else {
			x.From = 3
		}
		wrong(t, audit.Round, append(ahead, x)...)
	}
}

// TestTheFirstEvent: P21.1: of two events that are wrong the first one is told, whatever the fault of the other.
func TestTheFirstEvent(t *testing.T) {
	for f, l := range lone() {
		for _, m := range lone() {
			other := slices.Clone(m)
			for i := range other {
				other[i].ID += 100
				other[i].Port++
			}
			all := slices.Concat(l, story(), other)
			finds(t, len(l)-1, f, all...)
			all = slices.Concat(story(), l, other)
			finds(t, len(story())+len(l)-1, f, all...)
			all = slices.Concat(story(), l[:len(l)-1], other[:len(other)-1], l[len(l)-1:], other[len(other)-1:])
			finds(t, len(all)-2, f, all...)
		}
	}
}

// TestFar: P21.1: the place of what is wrong behind many events.
func TestFar(t *testing.T) {
	var l []world.Event
	for i := range 20000 {
		l = append(l, homes(i%16, i, i%32, i/32*16+i%16))
	}
	right(t, l...)
	for f, m := range lone() {
		for i := range m {
			m[i].ID -= 1000000
			m[i].Port += 1000
		}
		finds(t, len(l)+len(m)-1, f, slices.Concat(l, m, story())...)
	}
}

// TestRest: P2: the same events tell the same, whatever others were looked at between.
func TestRest(t *testing.T) {
	for range 3 {
		right(t, story()...)
		right(t, homes(3, 1, 3, 1))
		right(t, homes(4, 1, 3, 1))
		for f, l := range lone() {
			wrong(t, f, l...)
		}
		if got := fmt.Sprint(audit.Visits(4, story()...)); got != "[0 1 2 1 2 2]" {
			t.Errorf("Visits: %s", got)
		}
	}
	right(t, homes(0, math.MaxInt, 3, 1))
}
