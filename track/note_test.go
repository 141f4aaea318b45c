package track_test

import (
	"math"
	"testing"

	"rutter/api"
	"rutter/track"
)

// TestNew: P12.1: an empty table of a life, at the edges; ErrArg, and none, if there can't be such a one.
func TestNew(t *testing.T) {
	for _, n := range []int{1, 2, 10, 255, 256, 1<<31 - 1, 1 << 31} {
		s := made(t, n)
		has(t, s, plain{})
		notes(t, s, flow(), 5, api.OK)
		has(t, s, plain{records: []api.Record{until(5+n, flow())}})
	}
	for _, n := range []int{math.MinInt, -1 << 32, -1 << 31, -10, -1, 0, 1<<31 + 1, 1<<31 + 2, 1 << 32, 1<<32 + 10, 1 << 40, math.MaxInt} {
		if s, e := track.New(n); s != nil || e != api.ErrArg {
			t.Errorf("New %d: %v, %d", n, s, e)
		}
	}
}

// TestNewIsApart: P2: a new table is another one than those that were made ahead, of the same life, too.
func TestNewIsApart(t *testing.T) {
	a := made(t, 10)
	notes(t, a, flow(), 5, api.OK)
	b, c := made(t, 10), made(t, 20)
	has(t, b, plain{})
	notes(t, b, nth(1), 6, api.OK)
	notes(t, c, nth(1), 7, api.OK)
	notes(t, a, nth(2), 8, api.OK)
	has(t, a, plain{records: []api.Record{until(15, flow()), until(18, nth(2))}})
	has(t, b, plain{records: []api.Record{until(16, nth(1))}})
	has(t, c, plain{records: []api.Record{until(27, nth(1))}})
}

// TestNote: P12.1: a flow that may be is a record more, until the time and the life.
func TestNote(t *testing.T) {
	for _, f := range rightFlows() {
		s := made(t, 10)
		notes(t, s, f, 5, api.OK)
		has(t, s, plain{records: []api.Record{until(15, f)}})
	}
}

// TestNoteTimes: P12.1: any time that may be, and any life; 2^40 at most.
func TestNoteTimes(t *testing.T) {
	for _, x := range []struct{ life, now, until int }{
		{1, 0, 1}, {10, 0, 10}, {10, 1, 11}, {1 << 31, 0, 1 << 31}, {1 << 31, 1 << 31, 1 << 32}, {10, 1 << 32, 1<<32 + 10},
		{1, 1<<40 - 2, 1<<40 - 1}, {1, 1<<40 - 1, 1 << 40}, {1, 1 << 40, 1 << 40},
		{10, 1<<40 - 11, 1<<40 - 1}, {10, 1<<40 - 10, 1 << 40}, {10, 1<<40 - 9, 1 << 40}, {10, 1<<40 - 1, 1 << 40}, {10, 1 << 40, 1 << 40},
		{1 << 31, 1<<40 - 1<<31 - 1, 1<<40 - 1}, {1 << 31, 1<<40 - 1<<31, 1 << 40}, {1 << 31, 1<<40 - 1<<31 + 1, 1 << 40}, {1 << 31, 1 << 40, 1 << 40},
	} {
		s := made(t, x.life)
		notes(t, s, flow(), x.now, api.OK)
		has(t, s, plain{records: []api.Record{until(x.until, flow())}})
	}
}

// wrongNotes are flows and times, of which at least one may not be.
func wrongNotes() []struct {
	f   api.Flow
	now int
} {
	type note = struct {
		f   api.Flow
		now int
	}
	var l []note
	for _, f := range wrongFlows() {
		for _, now := range []int{-1, 0, 5, 105, 1 << 40, 1<<40 + 1} {
			l = append(l, note{f, now})
		}
	}
	for _, now := range wrongTimes() {
		l = append(l, note{flow(), now}, note{nth(3), now}, note{back(nth(3)), now})
	}
	return l
}

// TestNoteOfWrong: P12.1: ErrArg, and nothing, if the flow, or the time, may not be: what doesn't live stays, too.
func TestNoteOfWrong(t *testing.T) {
	for _, n := range []int{0, 1, 15, 16} {
		s := holding(t, many(n)...)
		for _, x := range wrongNotes() {
			notes(t, s, x.f, x.now, api.ErrArg)
			has(t, s, plain{records: many(n)})
		}
	}
}

// TestNoteAgain: P12.1: a flow that is there, or its Back, is until the later one of both times; its record stays as it is, and where it is.
func TestNoteAgain(t *testing.T) {
	for _, f := range []api.Flow{flow(), back(flow())} {
		for _, x := range []struct{ now, until int }{
			{0, 50}, {1, 50}, {20, 50}, {39, 50}, {40, 50}, {41, 51}, {42, 52}, {48, 58}, {49, 59},
		} {
			s := holding(t, until(60, nth(1)), until(50, flow()), until(60, nth(2)))
			notes(t, s, f, x.now, api.OK)
			has(t, s, plain{records: []api.Record{until(60, nth(1)), until(x.until, flow()), until(60, nth(2))}})
		}
	}
}

// TestNoteOfOver: P12.1: of a flow that lives no more, or its Back, a record comes behind all others, as it was noted.
func TestNoteOfOver(t *testing.T) {
	for _, f := range []api.Flow{flow(), back(flow())} {
		for _, now := range []int{50, 51, 59} {
			s := holding(t, until(60, nth(1)), until(50, flow()), until(60, nth(2)))
			notes(t, s, f, now, api.OK)
			has(t, s, plain{records: []api.Record{until(60, nth(1)), until(60, nth(2)), until(now+10, f)}})
		}
	}
}

// TestNoteAtTheEnd: P12.1: a flow that is there is until 2^40 at most.
func TestNoteAtTheEnd(t *testing.T) {
	for _, x := range []struct{ now, until int }{
		{1<<40 - 12, 1<<40 - 1}, {1<<40 - 11, 1<<40 - 1}, {1<<40 - 10, 1 << 40}, {1<<40 - 9, 1 << 40}, {1<<40 - 2, 1 << 40},
	} {
		s := holding(t, until(1<<40-1, flow()))
		notes(t, s, flow(), x.now, api.OK)
		has(t, s, plain{records: []api.Record{until(x.until, flow())}})
	}
	s := holding(t, until(1<<40, flow()))
	notes(t, s, back(flow()), 1<<40-1, api.OK)
	has(t, s, plain{records: []api.Record{until(1<<40, flow())}})
	notes(t, s, back(flow()), 1<<40, api.OK)
	has(t, s, plain{records: []api.Record{until(1<<40, back(flow()))}})
	notes(t, s, nth(1), 1<<40, api.OK)
	has(t, s, plain{records: []api.Record{until(1<<40, nth(1))}})
}

// TestNoteOfNear: P12.1: a flow that differs in one field alone, or of which one thing alone is changed over, is another one.
func TestNoteOfNear(t *testing.T) {
	for _, f := range near() {
		s := holding(t, until(50, flow()))
		if s.Known(f, 20) || s.Known(back(f), 20) {
			t.Errorf("%+v is known", f)
		}
		notes(t, s, f, 20, api.OK)
		has(t, s, plain{records: []api.Record{until(50, flow()), until(30, f)}})
	}
	s := made(t, 10)
	p := plain{life: 10}
	for i, f := range near() {
		notes(t, s, f, i/5, api.OK)
		p.note(f, i/5)
		has(t, s, p)
	}
	// Two of them are another one's way back.
	if len(p.records) != len(near())-2 {
		t.Errorf("%d: %+v", len(p.records), p.records)
	}
}

// TestNoteOfItsOwnBack: P12.1: flows whose way back is the flow itself.
func TestNoteOfItsOwnBack(t *testing.T) {
	f := api.Flow{Proto: 17, Src: 9, Dst: 9, SrcPort: 53, DstPort: 53}
	s := made(t, 10)
	notes(t, s, f, 5, api.OK)
	notes(t, s, f, 7, api.OK)
	has(t, s, plain{records: []api.Record{until(17, f)}})
}

// TestNoteLetsGo: P12.1: what doesn't live goes, whatever is noted: what is until the very time, or less; what is until one more stays.
func TestNoteLetsGo(t *testing.T) {
	l := []api.Record{until(21, nth(0)), until(20, nth(1)), until(19, nth(2)), until(22, nth(3)), until(1, nth(4)), until(1<<40, nth(5))}
	for _, f := range []api.Flow{flow(), nth(5), back(nth(5)), nth(1), nth(3)} {
		for _, now := range []int{0, 1, 2, 18, 19, 20, 21, 22, 23, 1<<40 - 1, 1 << 40} {
			s, p := holding(t, l...), plain{10, l}
			notes(t, s, f, now, api.OK)
			p.note(f, now)
			has(t, s, p)
		}
	}
	s := holding(t, l...)
	notes(t, s, flow(), 20, api.OK)
	has(t, s, plain{records: []api.Record{l[0], l[3], l[5], until(30, flow())}})
}

// TestNoteFull: P12.1: 16 records at most; ErrFull, and nothing, if there is no room.
func TestNoteFull(t *testing.T) {
	for n := range 16 {
		s := holding(t, many(n)...)
		notes(t, s, flow(), 20, api.OK)
		has(t, s, plain{records: append(many(n), until(30, flow()))})
	}
	s := holding(t, many(16)...)
	for _, now := range []int{0, 20, 98, 99} {
		notes(t, s, flow(), now, api.ErrFull)
		notes(t, s, back(flow()), now, api.ErrFull)
		has(t, s, plain{records: many(16)})
	}
	notes(t, s, flow(), 100, api.OK)
	has(t, s, plain{records: append(many(16)[1:], until(110, flow()))})
	notes(t, s, nth(20), 100, api.ErrFull)
	has(t, s, plain{records: append(many(16)[1:], until(110, flow()))})
}

// TestNoteIntoFull: P12.1: a flow alike, and its Back, need no room; what lives no more makes room, wherever it stands.
func TestNoteIntoFull(t *testing.T) {
	for i := range 16 {
		for _, f := range []api.Flow{nth(i), back(nth(i))} {
			s, want := holding(t, many(16)...), many(16)
			notes(t, s, f, 95, api.OK)
			want[i].Until = max(want[i].Until, 105)
			has(t, s, plain{records: want})
		}
		l := many(16)
		l[i].Until = 50
		s, p := holding(t, l...), plain{10, l}
		notes(t, s, flow(), 49, api.ErrFull)
		has(t, s, p)
		notes(t, s, flow(), 50, api.OK)
		p.note(flow(), 50)
		has(t, s, p)
		if len(p.records) != 16 || p.records[15] != until(60, flow()) {
			t.Fatalf("%d: %+v", i, p.records)
		}
	}
}

// TestNoteFills: P12.1: a table that is filled by notes, faster than they are over.
func TestNoteFills(t *testing.T) {
	s, p, full := made(t, 40), plain{life: 40}, 0
	for i := range 200 {
		e := p.note(nth(i), 2*i)
		notes(t, s, nth(i), 2*i, e)
		has(t, s, p)
		if e == api.ErrFull {
			full++
		}
	}
	// Of 20, as many as come in a life, the last 4 have no room.
	if full != 40 {
		t.Errorf("full %d times", full)
	}
}
