package phase_test

import (
	"math"
	"testing"

	"rutter/api"
)

// spans are those with which a row is just late at a time, and just not, and the edges of all.
func spans(r api.Row, now int) []int {
	l := []int{math.MinInt, math.MinInt + 1, -1, 0, 1, 1 << 40, 1<<40 + 1, math.MaxInt - 5000, math.MaxInt - 1, math.MaxInt}
	if is(now, 0, 1<<40) && is(r.Since, 0, 1<<40) {
		l = append(l, now-r.Since-1, now-r.Since, now-r.Since+1)
	}
	return l
}

// goesBack checks that a row is late, and is what it is then.
func goesBack(t *testing.T, r api.Row, now, span int) {
	t.Helper()
	want := with(row(0), ver(r.Ver+1), since(now))
	answers(t, ask{name: "late", now: now, span: span}, r, want, api.OK)
}

// stays checks that a row is not late, and is answered as it is.
func stays(t *testing.T, r api.Row, now, span int) {
	t.Helper()
	answers(t, ask{name: "late", now: now, span: span}, r, r, late)
}

// TestLate: P9.1: what moves goes back as by Abort, what moved is bound as by Commit, from Since and the span on; the others stay.
func TestLate(t *testing.T) {
	for _, n := range []int{0, 1, 5, 100, 1 << 39} {
		for _, r := range []api.Row{row(1), row(2)} {
			stays(t, r, 5000+n-1, n)
			goesBack(t, r, 5000+n, n)
			goesBack(t, r, 5000+n+1, n)
			goesBack(t, r, 1<<40, n)
			stays(t, r, 0, n)
		}
		for _, r := range []api.Row{row(0), row(3)} {
			for _, now := range []int{0, 5000 + n - 1, 5000 + n, 5000 + n + 1, 1 << 40} {
				stays(t, r, now, n)
			}
		}
	}
}

// TestLateBelowNought: P9.1: a span below 0 is as 0.
func TestLateBelowNought(t *testing.T) {
	for _, n := range []int{math.MinInt, math.MinInt + 5000, -1 << 40, -5001, -5000, -1, 0} {
		for _, r := range []api.Row{row(1), row(2)} {
			stays(t, r, 0, n)
			stays(t, r, 4999, n)
			goesBack(t, r, 5000, n)
			goesBack(t, r, 5001, n)
		}
	}
}

// TestLateFarAhead: P9.1: a span is as it is, up to the greatest number: the sum doesn't wrap round.
func TestLateFarAhead(t *testing.T) {
	for _, n := range []int{1<<40 + 1, 1 << 41, 1 << 62, math.MaxInt - 5000, math.MaxInt - 4999, math.MaxInt - 1, math.MaxInt} {
		for _, r := range append(each(), each(since(0))...) {
			stays(t, r, 1<<40, n)
			stays(t, r, 0, n)
			stays(t, r, 5000, n)
		}
	}
	for _, r := range []api.Row{row(1, since(0)), row(2, since(0))} {
		goesBack(t, r, 1<<40, 1<<40)
		stays(t, r, 1<<40-1, 1<<40)
		stays(t, r, 1<<40, 1<<40+1)
	}
	for _, r := range []api.Row{row(1, since(1<<40)), row(2, since(1<<40))} {
		goesBack(t, r, 1<<40, 0)
		stays(t, r, 1<<40, 1)
		stays(t, r, 1<<40-1, 0)
	}
}

// TestLateWithAnError: P9.1: where the act has an error, the row is as it is: at a time that may not be, of a row that may not be, and without a version.
func TestLateWithAnError(t *testing.T) {
	for _, n := range []int{math.MinInt, -1 << 40, -1, 1<<40 + 1, 1 << 41, math.MaxInt} {
		for _, r := range each() {
			for _, span := range spans(r, n) {
				stays(t, r, n, span)
			}
		}
	}
	for _, r := range wrongRows() {
		for _, now := range []int{0, 5000, 1 << 40} {
			for _, span := range spans(r, now) {
				stays(t, r, now, span)
			}
		}
	}
	for _, n := range []api.Phase{1, 2} {
		stays(t, row(n, ver(1<<40)), 6000, 0)
		goesBack(t, row(n, ver(1<<40-1)), 6000, 0)
		goesBack(t, row(n, ver(1<<40-15)), 6000, 0)
		answers(t, ask{name: "late", now: 6000}, row(n, gen(1<<32)), row(0, gen(1<<32), ver(901), since(6000)), api.OK)
	}
}
