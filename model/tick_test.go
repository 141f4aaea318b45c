package model_test

import (
	"math"
	"testing"

	"rutter/api"
)

// TestTick: P20.1: a time below NOW, or above 2^40, is refused, and nothing is changed; one at NOW, or above it, is.
func TestTick(t *testing.T) {
	m := each(t)
	for _, now := range []int{noon, noon + 1, noon + 1, noon + 9, 1<<40 - 1, 1 << 40, 1 << 40} {
		ticks(t, m, now)
		was := look(m)
		for _, wrong := range []int{math.MinInt, -1 << 40, -1, 0, 1, now - 2, now - 1, 1<<40 + 1, 1 << 41, math.MaxInt} {
			if e := m.Tick(wrong); e != api.ErrArg {
				t.Errorf("Tick to %d behind %d: %d", wrong, now, e)
			}
			if got := look(m); got != was {
				t.Fatalf("Tick to %d behind %d: %s; was %s", wrong, now, got, was)
			}
		}
		if got := clock(m); got != now {
			t.Errorf("NOW is %d; want %d", got, now)
		}
	}
}

// TestTickLate: P20.1: rows that are late become so, several at once, at the SPAN behind their Since, and not a tick before; all others stay.
func TestTickLate(t *testing.T) {
	m := each(t)
	becomes(t, m, asks(api.AddPort, 31, 1), bound(31, 1, 1, 1))
	ticks(t, m, noon+1)
	becomes(t, m, asks(api.Start, 31, 3), at(noon+1, moving(31, 1, 3, 1, 2)))
	rest := []api.Row{bound(1, 0, 1, 1), gone(4, 1, 2)}
	for _, x := range []struct {
		now  int
		rows []api.Row
	}{
		{noon + 1, []api.Row{moving(2, 0, 1, 1, 2), moved(3, 2, 0, 2, 3), at(noon+1, moving(31, 1, 3, 1, 2))}},
		{noon + span - 1, []api.Row{moving(2, 0, 1, 1, 2), moved(3, 2, 0, 2, 3), at(noon+1, moving(31, 1, 3, 1, 2))}},
		{noon + span, []api.Row{at(noon+span, bound(2, 0, 1, 3)), at(noon+span, bound(3, 2, 2, 4)), at(noon+1, moving(31, 1, 3, 1, 2))}},
		{noon + span, []api.Row{at(noon+span, bound(2, 0, 1, 3)), at(noon+span, bound(3, 2, 2, 4)), at(noon+1, moving(31, 1, 3, 1, 2))}},
		{noon + span + 7, []api.Row{at(noon+span, bound(2, 0, 1, 3)), at(noon+span, bound(3, 2, 2, 4)), at(noon+span+7, bound(31, 1, 1, 3))}},
		{1 << 40, []api.Row{at(noon+span, bound(2, 0, 1, 3)), at(noon+span, bound(3, 2, 2, 4)), at(noon+span+7, bound(31, 1, 1, 3))}},
	} {
		ticks(t, m, x.now)
		has(t, m, append(x.rows, rest...)...)
		are(t, m, 0, 1, 2, 3)
	}
}

// TestTickOfEachSpan: P20.1: it is the SPAN of the model by which rows are late, the least and the greatest, too, up to the end of time.
func TestTickOfEachSpan(t *testing.T) {
	for _, span := range []int{1, 2, 9, 1 << 16, 1<<31 - 1, 1 << 31} {
		for _, start := range []int{0, 1, noon, 1<<40 - span} {
			m, end := made(t, span), start+span
			ticks(t, m, start)
			does(t, m, adds(0), api.Row{})
			does(t, m, adds(1), api.Row{})
			for n := range 32 {
				does(t, m, asks(api.AddPort, n, 0), at(start, bound(n, 0, 1, 1)))
				does(t, m, asks(api.Start, n, 1), at(start, moving(n, 0, 1, 1, 2)))
			}
			var want []api.Row
			for n := range 32 {
				want = append(want, at(end, bound(n, 0, 1, 3)))
			}
			was := m.Rows()
			ticks(t, m, end-1)
			has(t, m, was...)
			ticks(t, m, end)
			has(t, m, want...)
		}
	}
}

// TestTickAgain: P20.1: what is late is so since its own act: of a row that moved on the way, since then; and what became so isn't late again.
func TestTickAgain(t *testing.T) {
	m := each(t)
	ticks(t, m, noon+span-1)
	becomes(t, m, asks(api.Commit, 2, 0), at(noon+span-1, moved(2, 1, 0, 2, 3)))
	ticks(t, m, noon+2*span-2)
	has(t, m, bound(1, 0, 1, 1), at(noon+span-1, moved(2, 1, 0, 2, 3)), at(noon+2*span-2, bound(3, 2, 2, 4)), gone(4, 1, 2))
	ticks(t, m, noon+2*span-1)
	want := []api.Row{bound(1, 0, 1, 1), at(noon+2*span-1, bound(2, 1, 2, 4)), at(noon+2*span-2, bound(3, 2, 2, 4)), gone(4, 1, 2)}
	has(t, m, want...)
	ticks(t, m, noon+9*span)
	has(t, m, want...)
}
