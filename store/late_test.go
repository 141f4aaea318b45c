package store_test

import (
	"math"
	"slices"
	"testing"

	"rutter/api"
	"rutter/store"
)

// toldLate is what the chapters say of Late, told anew, of rows that rise.
func toldLate(rows []api.Row, now, span int) []store.Change {
	var l []store.Change
	span = max(span, 0)
	for _, r := range rows {
		// No time is so late as a span above all times asks; held against them first, the sum can't wrap round.
		if !is(now, 0, 1<<40) || span > 1<<40 || now < r.Since+span || r.Ver == 1<<40 {
			continue
		}
		switch r.Phase {
		case api.Moving:
			l = append(l, from(r.Ver, with(r, in(api.Bound), target(-1), ver(r.Ver+1), since(now))))
		case api.Moved:
			l = append(l, from(r.Ver, with(r, in(api.Bound), old(-1), ver(r.Ver+1), since(now))))
		}
	}
	return l
}

// lates checks what Late tells, that this is nothing that a later call could tell, and that it fits: behind it no row is late.
func lates(t *testing.T, s *store.Store, now, span int, want ...store.Change) {
	t.Helper()
	was := look(s)
	for range 2 {
		if got := s.Late(now, span); !slices.Equal(got, want) {
			t.Fatalf("Late %d, %d: %+v; want %+v", now, span, got, want)
		}
	}
	if got := look(s); got != was {
		t.Errorf("Late %d, %d: %s; was %s", now, span, got, was)
	}
	other := like(t, s)
	does(t, other, s.Late(now, span)...)
	if l := other.Late(now, span); len(l) != 0 {
		t.Errorf("behind Late %d, %d: %+v", now, span, l)
	}
}

// like is another store with all chassis, and with the rows of that one.
func like(t *testing.T, s *store.Store) *store.Store {
	t.Helper()
	other := wide(t)
	for _, r := range s.Rows() {
		does(t, other, from(0, r))
	}
	return other
}

// back is the change of a moving row that is late, done that of one that has moved.
func back(r api.Row, now int) store.Change {
	return from(r.Ver, with(r, in(api.Bound), target(-1), ver(r.Ver+1), since(now)))
}

func done(r api.Row, now int) store.Change {
	return from(r.Ver, with(r, in(api.Bound), old(-1), ver(r.Ver+1), since(now)))
}

// TestLateOfAnEmptyStore: P10.1: of no rows none is late, with and without chassis.
func TestLateOfAnEmptyStore(t *testing.T) {
	for _, now := range []int{math.MinInt, -1, 0, 5000, 1 << 40, 1<<40 + 1, math.MaxInt} {
		for _, span := range []int{math.MinInt, -1, 0, 1, math.MaxInt} {
			lates(t, store.New(), now, span)
			lates(t, wide(t), now, span)
		}
	}
}

// TestLateOfEachPhase: P10.1: what moves goes back, what moved is bound, from Since and the span on; the others are not late.
func TestLateOfEachPhase(t *testing.T) {
	a, b, c, d := row(0, port(3), mac(3)), row(1, port(2), mac(2)), row(2, port(1), mac(1)), row(3, port(0), mac(0))
	s := wide(t, a, b, c, d)
	for _, span := range []int{0, 1, 100, 1 << 39} {
		lates(t, s, 5000+span-1, span)
		lates(t, s, 5000+span, span, done(c, 5000+span), back(b, 5000+span))
		lates(t, s, 5000+span+1, span, done(c, 5000+span+1), back(b, 5000+span+1))
		lates(t, s, 1<<40, span, done(c, 1<<40), back(b, 1<<40))
		lates(t, s, 0, span)
	}
	for _, r := range []api.Row{a, d} {
		lates(t, wide(t, r), 1<<40, 0)
	}
	lates(t, wide(t, b), 5000, 0, back(b, 5000))
	lates(t, wide(t, c), 5000, 0, done(c, 5000))
}

// TestLateBySomeTimes: P10.1: each row is late by its own Since, and is told by its port, whatever the order in which they came, and became late.
func TestLateBySomeTimes(t *testing.T) {
	for step := 1; step < 32; step += 6 {
		s := wide(t)
		for i := range 32 {
			n := i * step % 32
			does(t, s, from(0, row(api.Phase(n%3), port(n), mac(uint64(n)), since(100+n*7%32), ver(n+1))))
		}
		for now := 105; now <= 145; now++ {
			lates(t, s, now, 10, toldLate(s.Rows(), now, 10)...)
		}
		if n := len(s.Late(145, 10)); n != 21 {
			t.Errorf("%d are late", n)
		}
	}
}

// TestLateAtWrongTimes: P10.1: at a time that may not be none is late.
func TestLateAtWrongTimes(t *testing.T) {
	s := wide(t, row(1, since(0)), row(2, port(1), mac(1), since(0)))
	for _, now := range []int{math.MinInt, -1 << 40, -1, 1<<40 + 1, 1 << 41, math.MaxInt} {
		for _, span := range []int{math.MinInt, -1, 0, 1, 1 << 40, math.MaxInt} {
			lates(t, s, now, span)
		}
	}
}

// TestLateBySpansAtTheEdges: P10.1: a span below 0 is as 0, and the greatest ones are as they are.
func TestLateBySpansAtTheEdges(t *testing.T) {
	b, c := row(1, since(0)), row(2, port(1), mac(1), since(1<<40))
	s := wide(t, b, c)
	for _, span := range []int{math.MinInt, math.MinInt + 1, -1 << 40, -5000, -1, 0} {
		lates(t, s, 0, span, back(b, 0))
		lates(t, s, 1<<40-1, span, back(b, 1<<40-1))
		lates(t, s, 1<<40, span, done(c, 1<<40), back(b, 1<<40))
	}
	lates(t, s, 1<<40-1, 1<<40)
	lates(t, s, 1<<40, 1<<40, back(b, 1<<40))
	lates(t, s, 1<<40, 1, back(b, 1<<40))
	for _, span := range []int{1<<40 + 1, 1 << 62, math.MaxInt - 5000, math.MaxInt - 1, math.MaxInt} {
		lates(t, s, 1<<40, span)
		lates(t, s, 0, span)
		lates(t, wide(t, row(1), row(2, port(1), mac(1))), 1<<40, span)
	}
}

// TestLateOfTheLastVersion: P10.1: a row that has no version left is not late; the others still are.
func TestLateOfTheLastVersion(t *testing.T) {
	b, c := row(1, ver(1<<40)), row(2, port(10), mac(1), ver(1<<40))
	d, f := row(1, port(11), mac(2), ver(1<<40-1)), row(2, port(0), mac(3), gen(1<<32), ver(1<<40-1))
	lates(t, wide(t, b, c, d, f), 6000, 0, done(f, 6000), back(d, 6000))
}

// TestLateAlongAWay: P10.1: which rows are late is told of them as they are.
func TestLateAlongAWay(t *testing.T) {
	s := wide(t, row(0, ver(1), since(10)))
	lates(t, s, 99, 5)
	m := row(1, ver(2), since(20))
	does(t, s, from(1, m))
	lates(t, s, 24, 5)
	lates(t, s, 25, 5, back(m, 25))
	d := row(2, ver(3), since(24))
	does(t, s, from(2, d))
	lates(t, s, 25, 5)
	lates(t, s, 29, 5, done(d, 29))
	does(t, s, s.Late(29, 5)...)
	holds(t, s, row(0, ver(4), since(29)))
	lates(t, s, 99, 5)
	does(t, s, from(4, row(3, ver(5), since(30))))
	lates(t, s, 99, 5)
}

// TestLateIsStale: P10.1: what was late is stale, once the row is another one.
func TestLateIsStale(t *testing.T) {
	s := wide(t, row(1), row(2, port(1), mac(1)))
	l := s.Late(6000, 10)
	does(t, s, from(900, row(2, ver(901))))
	refuses(t, s, api.ErrStale, l...)
	does(t, s, l[0])
	refuses(t, s, api.ErrStale, l[1])
}
