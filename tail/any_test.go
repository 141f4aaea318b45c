package tail_test

import (
	"fmt"
	"testing"

	"rutter/api"
	"rutter/tail"
	"rutter/world"
)

// twins are two worlds with which the same was done.
type twins struct{ a, b *world.World }

// alike checks that both tell the same.
func (w twins) alike(t testing.TB) {
	t.Helper()
	if got, want := look(w.a), look(w.b); got != want {
		t.Fatalf("%s; want %s", got, want)
	}
}

// tails does anything of this package with one, and the like, told anew, with the other: what it was.
func (c *chance) tails(t testing.TB, w twins) string {
	t.Helper()
	switch c.below(6) {
	case 0:
		if e, want := tail.Begin(w.a), plainBegin(w.b); e != want {
			t.Fatalf("Begin: %d; want %d", e, want)
		}
		return "begin"
	case 1:
		rounds, loss := c.below(40)-1, one(c, c.below(5)-1, c.below(5)-1, -1<<63, 1<<40)
		n, e := tail.Run(w.a, rounds, loss)
		if m, want := plainRun(w.b, rounds, loss); n != m || e != want {
			t.Fatalf("Run %d, %d: %d, %d; want %d, %d", rounds, loss, n, e, m, want)
		}
		return fmt.Sprintf("run %d", e)
	case 2:
		if got, want := tail.Settled(w.a), plainSettled(w.b); got != want {
			t.Fatalf("Settled: %v; want %v", got, want)
		}
		return fmt.Sprintf("settled %v", plainSettled(w.b))
	}
	lost := c.below(2) == 0
	n, e := tail.Round(w.a, lost)
	if m, want := plainRound(w.b, lost); n != m || e != want {
		t.Fatalf("Round %v: %d, %d; want %d, %d", lost, n, e, m, want)
	}
	return fmt.Sprintf("round %v %d", lost, e)
}

// TestAny: P22.1, P1, P2: any calls of this package, between any deeds, held against what is told anew, on worlds to which the same is done.
func TestAny(t *testing.T) {
	seen := map[string]int{}
	for seed := range 120 {
		c := chance(seed)
		d, span, m := c, 1+seed%20, moods()[seed%4]
		w := twins{lived(t, &c, span, 100, m, seen), lived(t, &d, span, 100, m, seen)}
		for i := range 60 {
			seen[c.tails(t, w)]++
			for range c.below(40) {
				d = c
				_, e := c.does(w.a, m, span)
				if _, f := d.does(w.b, m, span); e != f {
					t.Fatalf("seed %d: error %d; want %d", seed, e, f)
				}
			}
			if i%10 == 9 {
				w.alike(t)
			}
		}
		w.alike(t)
	}
	enough(t, seen, map[string]int{
		"begin": 500, "run 0": 100, fmt.Sprintf("run %d", api.ErrState): 300, "settled true": 20, "settled false": 300, "round true 0": 500, "round false 0": 500,
		fmt.Sprintf("round true %d", api.ErrDown): 10, "call": 1000, "crash": 50, "break": 10, "start": 100, "inject": 500,
	})
}

// FuzzTail: as TestAny: calls and deeds of chance, from a number that the bytes tell; go test runs the seeds alone.
func FuzzTail(f *testing.F) {
	f.Add([]byte{}, 1)
	f.Add([]byte("what is done with a world, and till it is still"), span)
	f.Add([]byte{0, 7, 200, 9, 255, 13, 77}, 1<<31)
	f.Fuzz(func(t *testing.T, l []byte, most int) {
		c, span := chance(len(l)), 1+most&0x1f
		d := c
		w := twins{lived(t, &c, span, 50, moods()[0], map[string]int{}), lived(t, &d, span, 50, moods()[0], map[string]int{})}
		for _, x := range l[:min(len(l), 500)] {
			c = c<<8 ^ chance(x) ^ c>>56
			d = c
			if x%4 == 0 {
				c.tails(t, w)
				continue
			}
			c.does(w.a, moods()[x%3], span)
			d.does(w.b, moods()[x%3], span)
		}
		w.alike(t)
	})
}
