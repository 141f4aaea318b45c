package audit_test

import (
	"slices"
	"testing"

	"rutter/api"
	"rutter/audit"
	"rutter/world"
)

// visits checks which chassis looked at an ID, again and again, and that the events stay as they were.
func visits(t testing.TB, id int, l []world.Event, want ...int) {
	t.Helper()
	was := slices.Clone(l)
	for range 2 {
		if got := audit.Visits(id, l...); !slices.Equal(got, want) {
			t.Fatalf("Visits(%d) of %+v: %d; want %d", id, l, got, want)
		}
	}
	if !slices.Equal(l, was) {
		t.Fatalf("Visits left %+v; was %+v", l, was)
	}
}

// TestVisits: P21.1: the chassis of the looks of an ID, in order, and those of the others between.
func TestVisits(t *testing.T) {
	visits(t, 1, nil)
	visits(t, 0, story())
	for id, want := range [][]int{{}, {1}, {0, 1}, {2}, {0, 1, 2, 1, 2, 2}, {0, 2}, {3, 2}, {1}, {2}, {}} {
		visits(t, id, story(), want...)
	}
	visits(t, -1, story())
}

// TestVisitsOfNone: P21.1: of an ID that nothing looks at there are none, though it be doubled, and a port be awake.
func TestVisitsOfNone(t *testing.T) {
	for _, id := range ids() {
		visits(t, id, nil)
		visits(t, id, []world.Event{})
		visits(t, id, []world.Event{doubled(1, id), doubled(2, id), {What: 0, Chassis: 3, ID: id}})
		for _, what := range noLooks() {
			visits(t, id, []world.Event{{What: what, Chassis: 1, ID: id, Origin: 1, From: 1, Done: 1, Kind: api.Normal}})
		}
	}
}

// TestVisitsOfAnyID: P21.1: of an ID of any number, and not of others.
func TestVisitsOfAnyID(t *testing.T) {
	for _, id := range ids() {
		for _, other := range ids() {
			l := []world.Event{entered(4, other), entered(5, id), came(6, other, 0, 0), came(2, id, 0, 0), doubled(9, id), came(1, id, 0, 2)}
			if id == other {
				visits(t, id, l, 4, 5, 6, 2, 1)
			} else {
				visits(t, id, l, 5, 2, 1)
				visits(t, other, l, 4, 6)
			}
		}
	}
}

// TestVisitsWhateverBecame: P21.1: a look is one whatever became of what was looked at, whichever its kind, and also where it is wrong.
func TestVisitsWhateverBecame(t *testing.T) {
	for _, done := range append(noDeeds(), 1, 2) {
		for _, kind := range kinds() {
			l := []world.Event{entered(3, 7), came(2, 7, 3, 3), came(3, 7, 3, 3), came(2, 7, 2, 0), entered(2, 7)}
			for i := range l {
				l[i].Done, l[i].Kind, l[i].To = done, kind, l[i].Chassis
			}
			visits(t, 7, l, 3, 2, 3, 2, 2)
		}
	}
}

// TestVisitsAtAnyChassis: P21.1: a chassis is told as it is, each time, whichever number it is.
func TestVisitsAtAnyChassis(t *testing.T) {
	var l []world.Event
	for _, n := range edges() {
		l = append(l, entered(n, 7), came(n, 7, 0, 0), came(n, 8, 0, 0))
	}
	var want []int
	for _, n := range edges() {
		want = append(want, n, n)
	}
	visits(t, 7, l, want...)
	visits(t, 8, l, edges()...)
	slices.Reverse(l)
	slices.Reverse(want)
	visits(t, 7, l, want...)
}

// TestVisitsOfMany: P21.1: of many looks none is left out.
func TestVisitsOfMany(t *testing.T) {
	var l []world.Event
	for i := range 5000 {
		l = append(l, entered(i*i%16, i%3))
	}
	for id := range 4 {
		var want []int
		for i := id; i < 5000 && id < 3; i += 3 {
			want = append(want, i*i%16)
		}
		visits(t, id, l, want...)
	}
}
