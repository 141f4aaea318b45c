package track_test

import (
	"math"
	"slices"
	"testing"

	"rutter/api"
	"rutter/track"
)

// pair is a table, and a plain one to hold it against.
type pair struct {
	s *track.Table
	p *plain
}

func two(t *testing.T, life int) pair {
	t.Helper()
	return pair{made(t, life), &plain{life: life}}
}

func (b pair) same() bool { return like(b.s, *b.p) }

// step is a call of both; it tells what each answered, as a number: of Note the error, of Import how many.
type step func(b pair) (int, int)

func noting(f api.Flow, now int) step {
	return func(b pair) (int, int) { return int(b.s.Note(f, now)), int(b.p.note(f, now)) }
}

func importing(now int, l ...api.Record) step {
	return func(b pair) (int, int) { return b.s.Import(now, l...), b.p.imports(now, l...) }
}

// few are calls with little in them, of which each order has another end.
func few() []step {
	return []step{
		noting(flow(), 0), noting(flow(), 2), noting(back(flow()), 3), noting(nth(1), 1), noting(nth(1), 5), noting(flow(), 1<<40), noting(nth(1), -1), noting(flow(proto(5)), 9),
		importing(0, many(15)...), importing(2, until(3, flow()), until(3, nth(1))), importing(5), importing(1, until(1, flow()), until(7, back(flow())), until(8, nth(1))), importing(1<<40+1, until(9, nth(1))),
	}
}

// TestOrders: P12.1: all orders of up to four of these calls.
func TestOrders(t *testing.T) {
	steps := few()
	for long, orders := 1, len(steps); long <= 4; long, orders = long+1, orders*len(steps) {
		for order := range orders {
			b := two(t, 3)
			for left, i := order, 0; i < long; left, i = left/len(steps), i+1 {
				if got, want := steps[left%len(steps)](b); got != want {
					t.Fatalf("order %d: call %d, %d: %d; want %d, %+v", order, i, left%len(steps), got, want, *b.p)
				}
			}
			if !b.same() {
				t.Fatalf("order %d: %+v; want %+v", order, b.s.Records(math.MinInt), *b.p)
			}
		}
	}
}

// chance tells numbers that look like chance, the same in each run.
type chance uint64

func (c *chance) below(n int) int {
	*c = *c*6364136223846793005 + 1442695040888963407
	return int(uint64(*c) >> 33 % uint64(n))
}

// flow is one of few, or its way back; seldom one that may not be.
func (c *chance) flow() api.Flow {
	f := nth(c.below(24))
	switch c.below(40) {
	case 0:
		f.SrcPort += 1 << 16
	case 1:
		f.Proto = c.below(20)
	case 2:
		f = near()[c.below(len(near()))]
	}
	if c.below(3) == 0 {
		return back(f)
	}
	return f
}

// time is one about now, seldom any.
func (c *chance) time(now int) int {
	switch c.below(60) {
	case 0:
		return 1<<40 - 20 + c.below(30)
	case 1:
		return c.below(8) - 4
	}
	return now - 3 + c.below(8)
}

// records are up to so many, most of which live now.
func (c *chance) records(most, now int) []api.Record {
	l := make([]api.Record, c.below(most+1))
	for i := range l {
		l[i] = until(c.time(now+5), c.flow())
	}
	return l
}

// any is any call at about this time.
func (c *chance) any(now int) step {
	switch c.below(8) {
	case 0:
		return importing(c.time(now), c.records(20, now)...)
	case 1:
		return importing(c.time(now), c.records(3, now)...)
	}
	return noting(c.flow(), c.time(now))
}

// TestAnyCalls: P12.1, P1: any calls, one behind the other, held against a plain table.
func TestAnyCalls(t *testing.T) {
	c, seen, sizes := chance(1), map[int]int{}, map[int]int{}
	for round := range 24 {
		b := two(t, 1+c.below(25))
		start := []int{0, 1000, 1<<40 - 120}[round%3]
		for i := range 400 {
			got, want := c.any(start + i/3)(b)
			if got != want || !b.same() {
				t.Fatalf("call %d: %d; want %d; %+v; want %+v", i, got, want, b.s.Records(math.MinInt), *b.p)
			}
			seen[got]++
			sizes[len(b.p.records)]++
		}
	}
	for _, e := range []api.Errno{api.OK, api.ErrArg, api.ErrFull} {
		if seen[int(e)] < 100 {
			t.Errorf("of %d too few: %v", e, seen)
		}
	}
	for n := range 17 {
		if sizes[n] < 10 {
			t.Errorf("of %d records too few: %v", n, sizes)
		}
	}
}

// FuzzFlows: P12.1, P1: any two flows, at any times, in a table that has room, in one that hasn't; go test runs the seeds alone.
func FuzzFlows(f *testing.F) {
	for _, g := range append(append(rightFlows(), near()...), wrongFlows()...) {
		f.Add(g.Proto, g.Src, g.Dst, g.SrcPort, g.DstPort, 6, uint32(0x0a000102), uint32(0xc0a80304), 1024, 443, 10, 5, 7, 40)
		f.Add(g.Proto, g.Dst, g.Src, g.DstPort, g.SrcPort, g.Proto, g.Src, g.Dst, g.SrcPort, g.DstPort, 1<<31, 1<<32, 0, 1<<40)
	}
	f.Fuzz(func(t *testing.T, fp int, fs, fd uint32, fsp, fdp int, gp int, gs, gd uint32, gsp, gdp int, life, now, later, end int) {
		x, y := api.Flow{Proto: fp, Src: fs, Dst: fd, SrcPort: fsp, DstPort: fdp}, api.Flow{Proto: gp, Src: gs, Dst: gd, SrcPort: gsp, DstPort: gdp}
		if s, e := track.New(life); (e == api.OK) != (life >= 1 && life <= 1<<31) || (s == nil) != (e != api.OK) {
			t.Fatalf("New %d: %d", life, e)
		} else if s == nil {
			return
		}
		for _, n := range []int{0, 14, 15, 16} {
			b := two(t, life)
			for i, call := range []step{importing(0, many(n)...), noting(x, now), noting(y, later), importing(later, until(end, x), until(end, y), until(end, nth(0))), noting(y, end), importing(now, until(later, back(y)), until(life, x))} {
				if got, want := call(b); got != want || !b.same() || b.s.Known(x, now) != b.p.known(x, now) || b.s.Known(y, end) != b.p.known(y, end) {
					t.Fatalf("of %d: call %d: %d; want %d; %+v; want %+v", n, i, got, want, b.s.Records(math.MinInt), *b.p)
				}
			}
		}
	})
}

// FuzzCalls: as TestAnyCalls: calls of chance, from a number that the bytes tell; go test runs the seeds alone.
func FuzzCalls(f *testing.F) {
	f.Add([]byte{})
	f.Add([]byte("a table's calls, of which some note a flow, and some import a few"))
	f.Add(slices.Repeat([]byte("\x00\x07\xc8"), 80))
	f.Fuzz(func(t *testing.T, l []byte) {
		b, c := two(t, 1+len(l)%25), chance(len(l))
		for i, x := range l {
			c = c<<8 ^ chance(x) ^ c>>56
			if got, want := c.any(i)(b); got != want || !b.same() {
				t.Fatalf("%q: call %d: %d; want %d; %+v; want %+v", l, i, got, want, b.s.Records(math.MinInt), *b.p)
			}
		}
	})
}

// TestTablesAreApart: P2: the same calls of two tables answer the same, whatever is done with others between.
func TestTablesAreApart(t *testing.T) {
	c, d, between := chance(3), chance(3), chance(4)
	a, b, other := two(t, 10), two(t, 10), two(t, 20)
	for i := range 600 {
		x, _ := c.any(i / 3)(a)
		between.any(600 - i)(other)
		if y, _ := d.any(i / 3)(b); x != y || !slices.Equal(a.s.Records(i/3), b.s.Records(i/3)) || !b.same() {
			t.Fatalf("call %d: %d, then %d; %+v, then %+v", i, x, y, a.s.Records(i/3), b.s.Records(i/3))
		}
	}
}
