package model_test

import (
	"fmt"
	"testing"

	"rutter/api"
	"rutter/model"
)

// pair is a model, and a plain one to hold it against.
type pair struct {
	m *model.Model
	p plain
}

// two are both.
func two(t testing.TB, span int) *pair {
	t.Helper()
	return &pair{made(t, span), plain{span: span}}
}

// like checks that both tell the same.
func (b *pair) like(t testing.TB, what string) {
	t.Helper()
	if got, want := fmt.Sprint(b.m.Rows(), b.m.Chassis()), fmt.Sprint(b.p.all(), b.p.chassis()); got != want {
		t.Fatalf("%s: %s; want %s", what, got, want)
	}
}

// does does a call with both: its error.
func (b *pair) does(t testing.TB, x api.Call) api.Errno {
	t.Helper()
	r, e := b.m.Do(x)
	if s, f := b.p.do(x); r != s || e != f {
		t.Fatalf("%+v at %d: %+v, %d; want %+v, %d", x, b.p.now, r, e, s, f)
	}
	b.like(t, fmt.Sprintf("%+v", x))
	return e
}

// ticks lets time pass for both, to any time, most often a near one.
func (b *pair) ticks(t testing.TB, c *chance) api.Errno {
	t.Helper()
	now := b.p.now + c.below(4)
	if c.below(9) == 0 {
		now = one(c, b.p.now-1, b.p.now+b.p.span, b.p.now+b.p.span-1, c.edge())
		if now > 1<<39 && c.below(40) > 0 {
			now = b.p.now
		}
	}
	e := b.m.Tick(now)
	if f := b.p.tick(now); e != f {
		t.Fatalf("Tick to %d behind %d: %d; want %d", now, b.p.now, e, f)
	}
	b.like(t, fmt.Sprintf("Tick to %d", now))
	return e
}

// wakes lets both hear that somebody is awake, most often where a port is moving to.
func (b *pair) wakes(t testing.TB, c *chance) bool {
	t.Helper()
	port := c.port()
	r := of(b.p.all(), port)
	by, ver := r.Target, r.Ver
	switch c.below(6) {
	case 0:
		by = one(c, r.Owner, r.Old, c.chassis(), c.edge())
	case 1:
		ver = one(c, ver-1, ver+1, c.edge())
	case 2:
		port = one(c, c.port(), c.edge())
	}
	ok := b.m.Awake(by, port, ver)
	if want := b.p.awake(by, port, ver); ok != want {
		t.Fatalf("Awake at %d of port %d, of version %d: %v; want %v", by, port, ver, ok, want)
	}
	b.like(t, fmt.Sprintf("Awake at %d of port %d, of version %d", by, port, ver))
	return ok
}

// goesOn does anything with both: what it was, and what came of it.
func (b *pair) goesOn(t testing.TB, c *chance) string {
	t.Helper()
	switch k := c.below(20); {
	case k < 3:
		return fmt.Sprintf("tick %d", b.ticks(t, c))
	case k < 6:
		return fmt.Sprintf("awake %v", b.wakes(t, c))
	}
	x := c.call(b.p.all())
	if !is(int(x.Op), 0, 7) {
		x.Op = max(min(x.Op, 8), -1)
		return fmt.Sprintf("other %d", b.does(t, x))
	}
	return fmt.Sprintf("op %d %d", x.Op, b.does(t, x))
}

// TestAny: P20.1, P1: any calls, one behind the other, held against a plain model; and clones, of which each goes its own way.
func TestAny(t *testing.T) {
	seen := map[string]int{}
	for round := range 40 {
		c := chance(round)
		l := []*pair{two(t, one(&c, 1, 3, span, 40, 1<<31))}
		for range 3000 {
			b := one(&c, l...)
			seen[b.goesOn(t, &c)]++
			switch {
			case c.below(300) > 0:
			case len(l) < 5:
				l = append(l, &pair{b.m.Clone(), b.p})
			default:
				l[c.below(5)] = &pair{b.m.Clone(), b.p}
			}
		}
		for i, b := range l {
			b.like(t, fmt.Sprintf("clone %d, at last", i))
		}
	}
	few(t, seen, map[string]int{
		"tick 0": 5000, "tick 1": 300, "awake true": 1000, "awake false": 1000, "other 1": 100,
		"op 0 0": 200, "op 0 1": 30, "op 0 5": 1000, "op 1 0": 20, "op 1 4": 100, "op 1 11": 200,
		"op 2 0": 1000, "op 2 1": 30, "op 2 4": 100, "op 2 5": 300, "op 3 0": 1000, "op 3 4": 100, "op 3 8": 200,
		"op 4 0": 3000, "op 4 1": 30, "op 4 4": 100, "op 4 8": 300, "op 4 9": 300, "op 5 0": 2000, "op 5 4": 100, "op 5 8": 100,
		"op 6 0": 500, "op 6 4": 100, "op 6 8": 300, "op 7 0": 1000, "op 7 4": 100,
	})
}

// FuzzAny: as TestAny: what is done is of chance, from a number that the bytes tell; go test runs the seeds alone.
func FuzzAny(f *testing.F) {
	f.Add([]byte{}, 1)
	f.Add([]byte("what a controller is asked"), span)
	f.Add([]byte{1}, 0)
	f.Add([]byte{0, 7, 200, 9}, 1<<31)
	f.Fuzz(func(t *testing.T, l []byte, span int) {
		m, e := model.New(span)
		if !is(span, 1, 1<<31) {
			if m != nil || e != api.ErrArg {
				t.Fatalf("New(%d): %v, %d", span, m, e)
			}
			return
		}
		b, c := &pair{m, plain{span: span}}, chance(len(l))
		for n := range 4 {
			b.does(t, adds(n))
		}
		for _, x := range l {
			c = c<<8 ^ chance(x) ^ c>>56
			b.goesOn(t, &c)
			if x == 9 {
				b = &pair{b.m.Clone(), b.p}
			}
		}
	})
}

// TestApart: P2: the same is done with two models, and they tell the same, whatever is done with others between.
func TestApart(t *testing.T) {
	c, d, between := chance(3), chance(3), chance(4)
	a, b, other := two(t, span), two(t, span), two(t, 3)
	for i := range 4000 {
		x := a.goesOn(t, &c)
		other.goesOn(t, &between)
		if y := b.goesOn(t, &d); x != y || fmt.Sprint(a.m.Rows(), a.m.Chassis()) != fmt.Sprint(b.m.Rows(), b.m.Chassis()) {
			t.Fatalf("step %d: %s, then %s", i, x, y)
		}
	}
}
