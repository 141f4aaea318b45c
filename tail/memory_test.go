package tail_test

import (
	"testing"

	"rutter/api"
	"rutter/tail"
	"rutter/world"
)

// TestWhoLooks: P22.1: a world goes on as one does that nobody asks whether it is settled.
func TestWhoLooks(t *testing.T) {
	for seed := range 8 {
		c, d := chance(seed), chance(seed)
		m, seen := moods()[seed%4], map[string]int{}
		w, like := lived(t, &c, span, 0, m, seen), lived(t, &d, span, 0, m, seen)
		for i := range 400 {
			tail.Settled(w)
			tail.Bound(i, i)
			a, e := c.does(w, m, span)
			if b, f := d.does(like, m, span); a != b || e != f {
				t.Fatalf("seed %d, deed %d: %s: %d; want %s: %d", seed, i, a, e, b, f)
			}
			if i%50 == 0 {
				stays(t, w, look(like))
			}
		}
	}
}

// told is what the calls of this package tell of a world, and what is left of it then.
func told(t testing.TB, w *world.World) []any {
	t.Helper()
	l := []any{tail.Settled(w), tail.Begin(w), tail.Settled(w)}
	for i := range 6 {
		n, e := tail.Round(w, i%3 == 0)
		l = append(l, n, e, tail.Settled(w))
	}
	n, e := tail.Run(w, 3, 1)
	l = append(l, n, e, look(w))
	n, e = tail.Run(w, tail.Bound(span, 2), 2)
	return append(l, n, e, tail.Settled(w), look(w))
}

// TestSameAgain: P2: the same calls tell the same again, of another world with which the same was done, whatever was done with others between.
func TestSameAgain(t *testing.T) {
	for seed := range 20 {
		var all [2][]any
		for i := range all {
			c := chance(seed)
			w := lived(t, &c, span, 300, moods()[seed%4], map[string]int{})
			all[i] = told(t, w)
			told(t, town(t))
		}
		for i, x := range all[0] {
			if all[1][i] != x {
				t.Fatalf("seed %d, answer %d: %v; want %v", seed, i, all[1][i], x)
			}
		}
	}
}

// TestOthersStay: P2: what is done with one world is nothing to another one, nor to one that is nil.
func TestOthersStay(t *testing.T) {
	w, other := town(t), town(t)
	does(t, other, asks(api.Start, 3, 2))
	was := look(other)
	told(t, w)
	told(t, nil)
	stays(t, other, was)
}
