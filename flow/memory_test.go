package flow_test

import (
	"slices"
	"testing"

	"rutter/api"
	"rutter/flow"
)

// spoil writes into all that a list's memory has.
func spoil[T any](l []T, with T) {
	l = l[:cap(l)]
	for i := range l {
		l[i] = with
	}
}

// louder is an entry that would be looked up ahead of the others.
func louder() flow.Entry { return entry(prio(1000), does(2, 31, 15)) }

// TestEntriesAreNew: rule 4: who writes into what Entries told turns nothing of the table, nor of another answer.
func TestEntriesAreNew(t *testing.T) {
	for _, n := range []int{0, 1, 2, 100, 255, 256} {
		want := numbered(n)
		s := made(t, want...)
		a, b := s.Entries(), s.Entries()
		spoil(a, louder())
		_ = append(a, louder())
		if !slices.Equal(b, want) {
			t.Errorf("of %d: another answer: %+v", n, b)
		}
		has(t, s, want, key(0), key(1), key(2))
		_ = append(s.Entries()[:n/2], louder())
		has(t, s, want, key(0), key(1), key(2))
	}
}

// TestNewKeepsNothing: rule 4: what is handed to New is neither written into nor kept, nor what lies behind it.
func TestNewKeepsNothing(t *testing.T) {
	for _, n := range []int{0, 1, 2, 100, 255, 256} {
		room := append(numbered(n), louder(), louder())
		was := slices.Clone(room)
		s := made(t, room[:n]...)
		has(t, s, was[:n], key(0), key(1), key(2))
		if !slices.Equal(room, was) {
			t.Errorf("written into: %+v; was %+v", room, was)
		}
		spoil(room, louder())
		has(t, s, was[:n], key(0), key(1), key(2))
		l := s.Entries()
		_ = append(l, entry())
		if !slices.Equal(room, slices.Repeat([]flow.Entry{louder()}, n+2)) {
			t.Errorf("written into: %+v", room)
		}
	}
}

// TestNewKeepsNothingBesideError: rule 4: nor where they are too many.
func TestNewKeepsNothingBesideError(t *testing.T) {
	l := numbered(300)
	if s, e := flow.New(l...); s != nil || e != api.ErrFull {
		t.Errorf("%v, %d", s, e)
	}
	if !slices.Equal(l, numbered(300)) {
		t.Errorf("%+v", l)
	}
}

// TestTablesAreApart: P2: a table is another one than those of the same entries, and of its own.
func TestTablesAreApart(t *testing.T) {
	l := numbered(20)
	a, b := made(t, l...), made(t, l...)
	c := made(t, a.Entries()...)
	d := made(t, append(a.Entries(), louder())...)
	spoil(a.Entries(), louder())
	for _, s := range []*flow.Table{a, b, c} {
		has(t, s, l, key(0), key(1), key(2), key(3))
	}
	has(t, d, append(l, louder()), key(0), key(1), key(2), key(3))
	if _, e := flow.New(numbered(257)...); e != api.ErrFull {
		t.Errorf("%d", e)
	}
	has(t, a, l, key(0))
}
