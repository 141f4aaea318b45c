package audit_test

import (
	"fmt"
	"slices"
	"testing"

	"rutter/audit"
	"rutter/world"
)

// spoil writes into all that a list's memory has.
func spoil[T any](l []T, with T) {
	l = l[:cap(l)]
	for i := range l {
		l[i] = with
	}
}

// histories are lists of events of which nothing is wrong, of each fault, and of any.
func histories() [][]world.Event {
	l := [][]world.Event{nil, story(), few()}
	for f := audit.Owner; f <= audit.Again; f++ {
		l = append(l, lone()[f], slices.Concat(story(), lone()[f]))
	}
	c := chance(7)
	for range 50 {
		var all []world.Event
		for range 20 {
			all = append(all, c.event())
		}
		l = append(l, all)
	}
	return l
}

// told tells all that can be told of events.
func told(l []world.Event) string {
	i, f := audit.Look(l...)
	s := fmt.Sprint(i, f)
	for id := range 10 {
		s += fmt.Sprint(audit.Visits(id, l...))
	}
	return s
}

// TestHandedInStays: rule 4: what is handed in stays as it is, and what lies behind it; nor is that read.
func TestHandedInStays(t *testing.T) {
	for _, l := range histories() {
		want := told(l)
		for _, behind := range histories() {
			all := slices.Concat(l, behind)
			was := slices.Clone(all)
			if got := told(all[:len(l)]); got != want {
				t.Fatalf("%s; want %s, of %+v ahead of %+v", got, want, l, behind)
			}
			if !slices.Equal(all, was) {
				t.Fatalf("left %+v; was %+v", all, was)
			}
		}
	}
}

// TestNothingIsKept: rule 4, P2: the same events tell the same, whatever was told, and written into them, between.
func TestNothingIsKept(t *testing.T) {
	for _, l := range histories() {
		want, mine := told(l), slices.Clone(l)
		if got := told(mine); got != want {
			t.Fatalf("%s; want %s", got, want)
		}
		spoil(mine, homes(5, 7, 3, 1))
		for range 3 {
			told(mine)
		}
		if got := told(l); got != want {
			t.Fatalf("%s; want %s", got, want)
		}
	}
}

// TestAnswersAreNew: rule 4: who writes into chassis that were answered turns nothing of the events, nor of another answer.
func TestAnswersAreNew(t *testing.T) {
	for _, l := range histories() {
		was := slices.Clone(l)
		for id := range 10 {
			want := slices.Clone(audit.Visits(id, l...))
			a, b := audit.Visits(id, l...), audit.Visits(id, l...)
			_ = append(a, 98, 98)
			spoil(a, 99)
			if !slices.Equal(b, want) || !slices.Equal(audit.Visits(id, l...), want) || !slices.Equal(l, was) {
				t.Fatalf("%d; want %d, of %+v", b, want, l)
			}
		}
	}
}

// TestWorldsStay: rule 4: a world goes on as one does that nobody audits.
func TestWorldsStay(t *testing.T) {
	for seed := range 6 {
		c, d := chance(seed), chance(seed)
		w, like := begun(t, span), begun(t, span)
		for i := range 600 {
			audit.Twice(w)
			audit.Fine(w)
			a, e := c.does(w, moods()[seed%3])
			if b, g := d.does(like, moods()[seed%3]); a != b || e != g {
				t.Fatalf("seed %d, deed %d: %s: %d; want %s: %d", seed, i, a, e, b, g)
			}
			if i%50 == 0 && look(w) != look(like) {
				t.Fatalf("seed %d, deed %d: %s; want %s", seed, i, look(w), look(like))
			}
		}
	}
}
