package audit_test

import (
	"math"
	"slices"
	"testing"

	"rutter/api"
	"rutter/audit"
	"rutter/world"
)

// nothing is the fault of events of which none is wrong.
const nothing audit.Fault = 0

// Events of each what: an awake port, a guest's frame and a packet that were looked at, and dropped, and data that was doubled.
func awake(chassis, port, ver int) world.Event {
	return world.Event{What: 0, Chassis: chassis, Port: port, Ver: ver}
}

func entered(chassis, id int) world.Event {
	return world.Event{What: 1, Chassis: chassis, ID: id, Origin: chassis, From: chassis}
}

func came(chassis, id, origin, from int) world.Event {
	x := world.Event{What: 2, Chassis: chassis, Kind: api.Normal, ID: id, Origin: origin, From: from}
	if origin != from {
		x.Kind = api.Forward
	}
	return x
}

func doubled(chassis, id int) world.Event {
	return world.Event{What: 3, Chassis: chassis, ID: id}
}

// delivered is an event of what was delivered; sent of what was sent.
func delivered(x world.Event, port, gen, stamp int) world.Event {
	x.Done, x.Port, x.Gen, x.Stamp = 1, port, gen, stamp
	return x
}

func sent(x world.Event, to, port, gen int) world.Event {
	x.Done, x.To, x.Port, x.Gen = 2, to, port, gen
	return x
}

// homes is an event of what was delivered where it was sent from; arrives of what came from chassis 9.
func homes(chassis, id, port, gen int) world.Event {
	return delivered(entered(chassis, id), port, gen, gen)
}

func arrives(chassis, id, port, gen int) world.Event {
	return delivered(came(chassis, id, 9, 9), port, gen, gen)
}

// changed is an event with something else.
func changed(x world.Event, how func(x *world.Event)) world.Event {
	how(&x)
	return x
}

// Numbers at the edges of something: of fields that may be any, of what is no look, and of what neither delivers nor sends.
func edges() []int {
	return []int{math.MinInt, -1 << 32, -2, -1, 0, 1, 2, 15, 16, 31, 32, 1<<32 - 1, 1 << 32, 1<<40 + 1, math.MaxInt}
}

func noLooks() []int {
	return []int{math.MinInt, -1 << 32, -3, -2, -1, 0, 3, 4, 5, 257, 258, 1<<32 + 1, 1<<32 + 2, math.MaxInt}
}

func noDeeds() []int {
	return []int{math.MinInt, -1 << 32, -2, -1, 0, 3, 4, 257, 258, 1<<32 + 1, 1<<32 + 2, math.MaxInt}
}

// finds checks what Look tells of events, again and again, and that it leaves them as they were.
func finds(t testing.TB, at int, f audit.Fault, l ...world.Event) {
	t.Helper()
	was := slices.Clone(l)
	for range 2 {
		if i, g := audit.Look(l...); i != at || g != f {
			t.Fatalf("Look of %+v: %d, %d; want %d, %d", l, i, g, at, f)
		}
	}
	if !slices.Equal(l, was) {
		t.Fatalf("Look left %+v; was %+v", l, was)
	}
}

// right checks that nothing is wrong with events.
func right(t testing.TB, l ...world.Event) {
	t.Helper()
	finds(t, -1, nothing, l...)
}

// wrong checks that the last one of events is the first that is wrong, and how.
func wrong(t testing.TB, f audit.Fault, l ...world.Event) {
	t.Helper()
	right(t, l[:len(l)-1]...)
	finds(t, len(l)-1, f, l...)
}

// story is what may happen: port 3 is at 1, and moves to 2; what is sent there by elder rows is forwarded, what is doubled comes twice, and what comes too early is dropped.
func story() []world.Event {
	return []world.Event{
		homes(1, 1, 3, 1),
		sent(entered(0, 2), 1, 3, 1),
		delivered(came(1, 2, 0, 0), 3, 1, 1),
		entered(2, 3),
		awake(2, 3, 2),
		sent(entered(0, 4), 1, 3, 1),
		doubled(1, 4),
		sent(came(1, 4, 0, 0), 2, 3, 2),
		doubled(2, 4),
		came(2, 4, 0, 1),
		sent(came(1, 4, 0, 0), 2, 3, 2),
		delivered(came(2, 4, 0, 1), 3, 2, 2),
		delivered(came(2, 4, 0, 1), 3, 2, 2),
		sent(entered(0, 5), 2, 3, 2),
		sent(entered(3, 6), 2, 4, 1),
		delivered(came(2, 5, 0, 0), 3, 2, 1),
		delivered(came(2, 6, 3, 3), 4, 1, 1),
		homes(1, 7, 5, 1),
		homes(2, 8, 3, 2),
	}
}
