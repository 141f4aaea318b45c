package world_test

import (
	"fmt"
	"slices"
	"testing"

	"rutter/api"
	"rutter/world"
)

// alike checks that a world tells what a plain one does. What happened ahead, and what hasn't changed, needn't be held against it each time.
func alike(t testing.TB, w *world.World, p *plain, what string, whole bool) {
	t.Helper()
	if whole {
		if got, want := look(w), p.look(); got != want {
			t.Fatalf("%s: %s\n\nwant %s", what, got, want)
		}
		return
	}
	n := len(p.events)
	events := w.Events()
	if w.Now() != p.now || w.Lost() != p.lost || w.Len() != len(p.items) || len(events) != n {
		t.Fatalf("%s: now %d, %d lost, %d items, %d events; want %d, %d, %d, %d", what, w.Now(), w.Lost(), w.Len(), len(events), p.now, p.lost, len(p.items), n)
	}
	if n > 0 && events[n-1] != p.events[n-1] {
		t.Fatalf("%s: %+v; want %+v", what, events[n-1], p.events[n-1])
	}
	for i := max(0, len(p.items)-9); i < len(p.items); i++ {
		if x, e := w.At(i); !same(x, p.items[i]) || e != api.OK {
			t.Fatalf("%s: at %d %v; want %v", what, i, x, p.items[i])
		}
	}
}

// counts counts what a deed was, what came of it, and what is under way.
func counts(seen map[string]int, w *world.World, d deed, got said, events int) {
	seen[fmt.Sprintf("deed %d error %d", d.kind, got.e)]++
	if l := w.Events(); len(l) > events {
		x := l[events]
		seen[fmt.Sprintf("what %d kind %d done %d", x.What, x.Kind, x.Done)]++
	}
}

// few tells of which things that were seen there were too few.
func few(t *testing.T, seen, least map[string]int) {
	t.Helper()
	for k, n := range least {
		if seen[k] < n {
			t.Errorf("of %s too few: %d; %v", k, seen[k], seen)
		}
	}
}

// TestAnyDeeds: P19.1, P1: any calls of a world, one behind the other, held against a plain one.
func TestAnyDeeds(t *testing.T) {
	seen := map[string]int{}
	for round := range 24 {
		c := chance(round)
		w, p := made(t, span, life), plainOf(span, life)
		if round%8 > 0 {
			begun(t, w)
			begun(t, p)
		}
		for i := range 1500 {
			d, events := c.deed(t, w, moods()[round%3]), len(p.events)
			got, want := d.to(w), d.to(p)
			what := fmt.Sprintf("round %d, deed %d, %+v", round, i, d)
			if got != want {
				t.Fatalf("%s: %+v; want %+v", what, got, want)
			}
			counts(seen, w, d, got, events)
			alike(t, w, p, what, i%20 == 0)
		}
		alike(t, w, p, "at last", true)
	}
	few(t, seen, map[string]int{
		"deed 0 error 0": 500, "deed 0 error 12": 50, "deed 1 error 0": 20, "deed 1 error 8": 1, "deed 2 error 0": 500, "deed 2 error 1": 5,
		"deed 3 error 0": 200, "deed 3 error 1": 10, "deed 3 error 5": 50, "deed 4 error 0": 100, "deed 4 error 12": 1, "deed 5 error 0": 2000, "deed 5 error 1": 10, "deed 5 error 12": 10,
		"deed 6 error 0": 5000, "deed 6 error 4": 50, "deed 7 error 0": 500, "deed 8 error 0": 500, "deed 9 error 0": 500, "deed 9 error 1": 50, "deed 9 error 12": 50,
		"what 0 kind 0 done 0": 50, "what 1 kind 0 done 0": 200, "what 1 kind 0 done 1": 50, "what 1 kind 0 done 2": 200,
		"what 2 kind 1 done 0": 50, "what 2 kind 1 done 1": 100, "what 2 kind 1 done 2": 10, "what 2 kind 2 done 1": 10, "what 3 kind 0 done 0": 100,
	})
}

// TestAnyDeedsInAFullNet: as TestAnyDeeds, of a net in which there is little room.
func TestAnyDeedsInAFullNet(t *testing.T) {
	c := chance(5)
	w, p := made(t, span, life), plainOf(span, life)
	begun(t, w)
	begun(t, p)
	for w.Len() < api.MaxFrames-3 {
		w.Step(3)
		p.Step(3)
	}
	for i := range 600 {
		d := c.deed(t, w, moods()[i%3])
		if k := c.below(3); k == 0 {
			d = deed{kind: goes, who: c.who(w, true)}
		} else if k == 1 {
			d = c.guest(t, w)
		}
		what := fmt.Sprintf("deed %d, %+v", i, d)
		if got, want := d.to(w), d.to(p); got != want {
			t.Fatalf("%s: %+v; want %+v", what, got, want)
		}
		alike(t, w, p, what, false)
	}
	alike(t, w, p, "at last", true)
	if w.Lost() < 100 {
		t.Errorf("too few were lost: %d", w.Lost())
	}
}

// FuzzDeeds: as TestAnyDeeds: deeds of chance, from a number that the bytes tell; go test runs the seeds alone.
func FuzzDeeds(f *testing.F) {
	f.Add([]byte{}, 1, 1)
	f.Add([]byte("what is done with a world"), span, life)
	f.Add(slices.Repeat([]byte{0, 7, 200, 9}, 40), 1<<31, 3)
	f.Add([]byte{1}, 0, 1<<31+1)
	f.Fuzz(func(t *testing.T, l []byte, span, life int) {
		w, e := world.New(span, life)
		if may := is(span, 1, 1<<31) && is(life, 1, 1<<31); !may || e != api.OK {
			if may || w != nil || e != api.ErrArg {
				t.Fatalf("New(%d, %d): %v, %d", span, life, w, e)
			}
			return
		}
		p, c := plainOf(span, life), chance(len(l))
		begun(t, w)
		begun(t, p)
		for i, x := range l {
			c = c<<8 ^ chance(x) ^ c>>56
			d := c.deed(t, w, moods()[i%3])
			what := fmt.Sprintf("deed %d, %+v", i, d)
			if got, want := d.to(w), d.to(p); got != want {
				t.Fatalf("%s: %+v; want %+v", what, got, want)
			}
			alike(t, w, p, what, false)
		}
		alike(t, w, p, "at last", true)
	})
}

// TestApart: P2: the same is done with two worlds, and they tell the same, whatever is done with others between.
func TestApart(t *testing.T) {
	c, between := chance(3), chance(4)
	a, b, other := made(t, span, life), made(t, span, life), made(t, 3, 2)
	begun(t, a)
	begun(t, other)
	begun(t, b)
	for i := range 1500 {
		d := c.deed(t, a, moods()[1])
		x := d.to(a)
		between.deed(t, other, moods()[2]).to(other)
		if y := d.to(b); x != y {
			t.Fatalf("deed %d: %+v: %+v, then %+v", i, d, x, y)
		}
		if i%10 == 0 && look(a) != look(b) {
			t.Fatalf("deed %d: %+v: %s\n\n%s", i, d, look(a), look(b))
		}
	}
}
