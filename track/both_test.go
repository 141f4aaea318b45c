package track_test

import (
	"math"
	"slices"
	"testing"

	"rutter/api"
	"rutter/track"
)

// TestNotedIsKnown: P12.2: a flow that was noted is known, and its Back, until its life is over.
func TestNotedIsKnown(t *testing.T) {
	for _, life := range []int{1, 2, 10, 1 << 31} {
		for _, now := range []int{0, 5, 1 << 32, 1<<40 - 1<<31, 1<<40 - 11, 1<<40 - 1} {
			for _, f := range []api.Flow{flow(), back(flow())} {
				s := made(t, life)
				notes(t, s, f, now, api.OK)
				over := min(now+life, 1<<40)
				for _, at := range []int{now, now + 1, (now + over) / 2, over - 2, over - 1, over, over + 1, 1 << 40, math.MaxInt} {
					knows(t, s, f, at, at < over)
				}
			}
		}
	}
}

// TestNotedIsKnownAmongOthers: P12.2: also while others are noted and imported, and what is over goes, up to that time.
func TestNotedIsKnownAmongOthers(t *testing.T) {
	for life := range 20 {
		s := made(t, 1+life)
		notes(t, s, flow(), 5, api.OK)
		for at := 5; at < 30; at++ {
			knows(t, s, flow(), at, at < 6+life)
			s.Note(nth(at), at)
			s.Import(at, until(at+1, nth(at)), until(at+2, nth(at+100)))
			s.Records(at)
			knows(t, s, flow(), at, at < 6+life)
		}
	}
}

// TestNotedAgainIsKnown: P12.2: the life begins anew with each note of the flow, and of its Back.
func TestNotedAgainIsKnown(t *testing.T) {
	s := made(t, 10)
	for now := 0; now < 200; now += 9 {
		f := flow()
		if now%2 == 1 {
			f = back(f)
		}
		notes(t, s, f, now, api.OK)
		for at := now; at < now+10; at++ {
			knows(t, s, flow(), at, true)
		}
		knows(t, s, flow(), now+10, false)
	}
}

// handsOver checks that an empty table that imports what another one tells knows the same, as long, and tells the same.
func handsOver(t *testing.T, from, to *track.Table, now int, also ...api.Flow) {
	t.Helper()
	l := from.Records(now)
	imports(t, to, len(l), now, l...)
	p := plain{records: l}
	has(t, to, p)
	for _, at := range p.times() {
		if at < now {
			continue
		}
		tells(t, to, at, from.Records(at)...)
		for _, r := range l {
			knows(t, to, r.Flow, at, from.Known(r.Flow, at))
		}
		for _, f := range also {
			knows(t, to, f, at, from.Known(f, at))
		}
	}
}

// TestHandOver: P12.2: what a table tells is known by another one, of whatever life, that imports it, empty, as long.
func TestHandOver(t *testing.T) {
	for _, life := range []int{1, 9, 10, 11, 1 << 31} {
		for _, now := range []int{0, 20, 21, 29, 30, 31, 100, 1<<40 - 1, 1 << 40} {
			from := holding(t, until(21, nth(0)), until(30, back(flow())), until(1<<40, nth(2)), until(1, nth(3)))
			handsOver(t, from, made(t, life), now, flow(), nth(0), nth(1), nth(2), nth(3))
			handsOver(t, holding(t, many(16)...), made(t, life), now, nth(15), nth(16))
			handsOver(t, made(t, 10), made(t, life), now, flow())
		}
	}
}

// TestHandOverOfNotes: P12.2: notes, along many tables, one behind the other.
func TestHandOverOfNotes(t *testing.T) {
	s := made(t, 40)
	for i := range 12 {
		notes(t, s, nth(i), i, api.OK)
	}
	last := s
	for now := 12; now < 60; now += 5 {
		next := made(t, 1+now)
		handsOver(t, last, next, now)
		for i := range 12 {
			knows(t, next, nth(i), now, now < 40+i)
			knows(t, next, back(nth(i)), 39+i, now < 40+i)
			knows(t, next, nth(i), 40+i, false)
		}
		last = next
	}
	tells(t, last, 0)
}

// TestHandOverIsACopy: P12.2: behind it each table goes its own way.
func TestHandOverIsACopy(t *testing.T) {
	from, to := holding(t, many(3)...), made(t, 20)
	handsOver(t, from, to, 50)
	notes(t, from, nth(0), 105, api.OK)
	has(t, to, plain{records: many(3)})
	notes(t, to, nth(2), 99, api.OK)
	has(t, to, plain{records: []api.Record{until(100, nth(0)), until(101, nth(1)), until(119, nth(2))}})
	has(t, from, plain{records: []api.Record{until(115, nth(0))}})
}

// TestHandOverOfAny: P12.2, P1: any tables, at any time that may be.
func TestHandOverOfAny(t *testing.T) {
	c, full := chance(5), 0
	for round := range 300 {
		b := two(t, 1+c.below(25))
		for i := range c.below(120) {
			c.any(i / 3)(b)
		}
		now := max(0, min(1<<40, c.time(c.below(50))))
		if len(b.s.Records(now)) == 16 {
			full++
		}
		flows := []api.Flow{c.flow(), c.flow(), c.flow()}
		handsOver(t, b.s, made(t, 1+c.below(50)), now, flows...)
		if !b.same() {
			t.Fatalf("round %d: the table that told has other records: %+v; had %+v", round, b.s.Records(math.MinInt), *b.p)
		}
	}
	if full < 5 {
		t.Errorf("full %d times", full)
	}
}

// TestHandOverIntoOthers: P12.2: one that isn't empty knows what it knew, and as long, and of the others as many as there is room for.
func TestHandOverIntoOthers(t *testing.T) {
	from, to := holding(t, many(16)...), holding(t, until(500, back(nth(3))), until(60, nth(8)), until(40, nth(9)), until(70, flow()))
	l := from.Records(50)
	imports(t, to, 15, 50, l...)
	want := []api.Record{until(500, back(nth(3))), until(108, nth(8)), until(70, flow())}
	for i, r := range l {
		if i != 3 && i != 8 && i != 15 {
			want = append(want, r)
		}
	}
	has(t, to, plain{records: want})
	if !slices.Equal(from.Records(50), many(16)) {
		t.Errorf("%+v", from.Records(50))
	}
}

// TestAWay: P12.1, P12.2: two tables, as README.md tells it.
func TestAWay(t *testing.T) {
	f := api.Flow{Proto: api.TCP, Src: 1, Dst: 2, SrcPort: 1024, DstPort: 80}
	g := api.Flow{Proto: api.UDP, Src: 1, Dst: 3, SrcPort: 1024, DstPort: 53}
	a := made(t, 10)
	notes(t, a, f, 5, api.OK)
	knows(t, a, f, 14, true)
	knows(t, a, f, 15, false)
	notes(t, a, g, 7, api.OK)
	notes(t, a, back(f), 9, api.OK)
	l := []api.Record{until(19, f), until(17, g)}
	tells(t, a, 9, l...)
	tells(t, a, 17, l[0])
	b := made(t, 20)
	imports(t, b, 2, 9, a.Records(9)...)
	knows(t, b, f, 18, true)
	imports(t, b, 1, 17, l...)
	tells(t, b, 0, l[0])
	notes(t, a, api.Flow{}, 9, api.ErrArg)
	imports(t, b, 0, -1, l...)
	if _, e := track.New(0); e != api.ErrArg {
		t.Errorf("New 0: %d", e)
	}
}
