package track_test

import (
	"math"
	"slices"
	"testing"

	"rutter/api"
	"rutter/track"
)

// knows checks what Known answers of a flow, and of its Back.
func knows(t *testing.T, s *track.Table, f api.Flow, now int, want bool) {
	t.Helper()
	if s.Known(f, now) != want || s.Known(back(f), now) != want {
		t.Errorf("%+v at %d: %t, and back %t; want %t", f, now, s.Known(f, now), s.Known(back(f), now), want)
	}
}

// tells checks what Records answers.
func tells(t *testing.T, s *track.Table, now int, want ...api.Record) {
	t.Helper()
	if l := s.Records(now); !slices.Equal(l, want) {
		t.Errorf("at %d: %+v; want %+v", now, l, want)
	}
}

// TestKnown: P12.1: a flow is known, and its Back, at a time at which its record lives, and no other.
func TestKnown(t *testing.T) {
	s := holding(t, until(21, nth(0)), until(30, flow()), until(1<<40, nth(2)))
	for _, now := range []int{math.MinInt, math.MinInt + 30, -1 << 40, -1, 0, 1, 20, 21, 29, 30, 31, 1<<40 - 1, 1 << 40, 1<<40 + 1, math.MaxInt} {
		knows(t, s, nth(0), now, now < 21)
		knows(t, s, flow(), now, now < 30)
		knows(t, s, nth(2), now, now < 1<<40)
		for _, f := range append(near(), nth(1), nth(3)) {
			knows(t, s, f, now, false)
		}
		for _, f := range wrongFlows() {
			knows(t, s, f, now, false)
		}
	}
}

// TestKnownExample: P12.1, and the document's fifth example: a flow that was noted at 5, with a life of 10, is known, and its way back, till 14.
func TestKnownExample(t *testing.T) {
	s := made(t, 10)
	notes(t, s, flow(), 5, api.OK)
	knows(t, s, flow(), 5, true)
	knows(t, s, flow(), 14, true)
	knows(t, s, flow(), 15, false)
}

// TestRecords: P12.1: those that live at a time, in the order in which they came.
func TestRecords(t *testing.T) {
	a, b, c, d := until(30, nth(3)), until(21, nth(0)), until(1<<40, back(nth(2))), until(22, flow())
	s := holding(t, a, b, c, d)
	for _, now := range []int{math.MinInt, math.MinInt + 30, -1 << 40, -1, 0, 1, 20} {
		tells(t, s, now, a, b, c, d)
	}
	tells(t, s, 21, a, c, d)
	tells(t, s, 22, a, c)
	tells(t, s, 29, a, c)
	tells(t, s, 30, c)
	tells(t, s, 1<<40-1, c)
	for _, now := range []int{1 << 40, 1<<40 + 1, math.MaxInt} {
		tells(t, s, now)
	}
	tells(t, s, 0, a, b, c, d)
}

// TestRecordsOfFull: P12.1: all of a full table, of which each lives as long as it does.
func TestRecordsOfFull(t *testing.T) {
	s := holding(t, many(16)...)
	for i := range 17 {
		tells(t, s, 99+i, many(16)[i:]...)
	}
}

// TestOrder: P12.1: the order behind notes, imports, and what went: that in which they came.
func TestOrder(t *testing.T) {
	s := made(t, 10)
	notes(t, s, nth(5), 0, api.OK)
	notes(t, s, nth(1), 1, api.OK)
	imports(t, s, 2, 2, until(8, nth(9)), until(50, nth(0)))
	notes(t, s, nth(3), 3, api.OK)
	tells(t, s, 3, until(10, nth(5)), until(11, nth(1)), until(8, nth(9)), until(50, nth(0)), until(13, nth(3)))
	notes(t, s, back(nth(1)), 4, api.OK)
	imports(t, s, 1, 4, until(60, nth(5)))
	tells(t, s, 4, until(60, nth(5)), until(14, nth(1)), until(8, nth(9)), until(50, nth(0)), until(13, nth(3)))
	notes(t, s, nth(9), 8, api.OK)
	tells(t, s, 8, until(60, nth(5)), until(14, nth(1)), until(50, nth(0)), until(13, nth(3)), until(18, nth(9)))
	imports(t, s, 1, 14, until(20, back(nth(1))))
	tells(t, s, 14, until(60, nth(5)), until(50, nth(0)), until(18, nth(9)), until(20, back(nth(1))))
}

// TestEmpty: P12.1: nothing is known of an empty table, at any time: of a new one, and of one from which all went.
func TestEmpty(t *testing.T) {
	over := holding(t, many(16)...)
	imports(t, over, 0, 200)
	for _, s := range []*track.Table{made(t, 10), over} {
		for _, now := range (plain{}).times() {
			tells(t, s, now)
			for _, f := range []api.Flow{{}, flow(), nth(0)} {
				knows(t, s, f, now, false)
			}
		}
	}
}

// TestReadingTurnsNothing: P12.1: Known and Records let nothing go, at whatever time, so that what is over at one is told at an earlier one.
func TestReadingTurnsNothing(t *testing.T) {
	l := []api.Record{until(21, nth(0)), until(30, flow()), until(1<<40, nth(2))}
	s := holding(t, l...)
	for _, now := range (plain{records: l}).times() {
		s.Records(now)
		s.Known(flow(), now)
		s.Known(nth(7), now)
		s.Known(api.Flow{}, now)
		has(t, s, plain{records: l})
	}
	notes(t, s, nth(7), 5, api.OK)
	has(t, s, plain{records: append(l, until(15, nth(7)))})
}

// TestNil: P12.1, P1: a nil table answers ErrArg, 0, false, nothing, whatever it is given.
func TestNil(t *testing.T) {
	var s *track.Table
	for _, now := range (plain{}).times() {
		for _, f := range []api.Flow{{}, flow(), flow(proto(5))} {
			notes(t, s, f, now, api.ErrArg)
			knows(t, s, f, now, false)
		}
		imports(t, s, 0, now)
		imports(t, s, 0, now, many(17)...)
		tells(t, s, now)
	}
}
