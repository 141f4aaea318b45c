package store_test

import (
	"math"
	"slices"
	"testing"

	"rutter/api"
	"rutter/store"
)

// chassisAre checks which chassis a store has.
func chassisAre(t *testing.T, s *store.Store, l ...int) {
	t.Helper()
	if got := s.Chassis(); !slices.Equal(got, l) {
		t.Errorf("Chassis: %d; want %d", got, l)
	}
	for n := -2; n <= 18; n++ {
		if s.Has(n) != slices.Contains(l, n) {
			t.Errorf("Has %d: %t; the chassis are %d", n, s.Has(n), l)
		}
	}
	for _, n := range []int{math.MinInt, 256, 1 << 32, math.MaxInt} {
		if s.Has(n) {
			t.Errorf("Has %d", n)
		}
	}
}

// adds, removes check what Add, and Remove, answer of a chassis.
func adds(t *testing.T, s *store.Store, n int, e api.Errno) {
	t.Helper()
	if got := s.Add(n); got != e {
		t.Errorf("Add %d: %d; want %d", n, got, e)
	}
}

func removes(t *testing.T, s *store.Store, n int, e api.Errno) {
	t.Helper()
	if got := s.Remove(n); got != e {
		t.Errorf("Remove %d: %d; want %d", n, got, e)
	}
}

// wrongChassis are numbers that no chassis has.
func wrongChassis() []int {
	return []int{math.MinInt, -1 << 32, -16, -2, -1, 16, 17, 31, 32, 256, 256 + 3, 1 << 32, 1<<32 + 3, math.MaxInt}
}

// TestNew: P10.1: a new store is empty, and is another one than those that were made ahead.
func TestNew(t *testing.T) {
	a := store.New()
	chassisAre(t, a)
	holds(t, a)
	adds(t, a, 3, api.OK)
	does(t, a, from(0, row(0)))
	b := store.New()
	chassisAre(t, b)
	holds(t, b)
	if r, ok := b.Find(row(0).MAC); ok || r != (api.Row{}) {
		t.Errorf("Find: %+v, %t", r, ok)
	}
	if l := b.Late(1<<40, 0); len(l) != 0 {
		t.Errorf("Late: %+v", l)
	}
	chassisAre(t, a, 3)
}

// TestAdd: P10.1: a chassis more, at the edges; one that is there is ErrTwice, one that can't be is ErrArg.
func TestAdd(t *testing.T) {
	s := store.New()
	adds(t, s, 15, api.OK)
	chassisAre(t, s, 15)
	adds(t, s, 0, api.OK)
	chassisAre(t, s, 0, 15)
	for _, n := range wrongChassis() {
		adds(t, s, n, api.ErrArg)
	}
	adds(t, s, 0, api.ErrTwice)
	adds(t, s, 15, api.ErrTwice)
	chassisAre(t, s, 0, 15)
	adds(t, s, 1, api.OK)
	adds(t, s, 14, api.OK)
	chassisAre(t, s, 0, 1, 14, 15)
}

// TestRemove: P10.1: a chassis goes, at the edges; one that isn't there, also since it can't be, is ErrNone.
func TestRemove(t *testing.T) {
	s := made(t, 0, 7, 15)
	for _, n := range append(wrongChassis(), 1, 8, 14) {
		removes(t, s, n, api.ErrNone)
	}
	chassisAre(t, s, 0, 7, 15)
	removes(t, s, 15, api.OK)
	chassisAre(t, s, 0, 7)
	removes(t, s, 15, api.ErrNone)
	removes(t, s, 0, api.OK)
	removes(t, s, 0, api.ErrNone)
	chassisAre(t, s, 7)
	adds(t, s, 0, api.OK)
	adds(t, s, 0, api.ErrTwice)
	chassisAre(t, s, 0, 7)
	removes(t, s, 0, api.OK)
	removes(t, s, 7, api.OK)
	chassisAre(t, s)
	removes(t, store.New(), 0, api.ErrNone)
}

// TestRemoveOfUsed: P10.1: one that a row names as Owner, as Target, as Old is ErrUsed; the others go.
func TestRemoveOfUsed(t *testing.T) {
	for _, r := range each() {
		for n := range 16 {
			s := wide(t, r)
			if n != r.Owner && n != r.Target && n != r.Old {
				removes(t, s, n, api.OK)
				removes(t, s, n, api.ErrNone)
			} else {
				removes(t, s, n, api.ErrUsed)
				adds(t, s, n, api.ErrTwice)
				chassisAre(t, s, allChassis()...)
			}
			holds(t, s, r)
		}
	}
}

// TestRemoveNobody: P10.1: nobody, whom rows name, too, is no chassis that could go, or come.
func TestRemoveNobody(t *testing.T) {
	s := wide(t, row(0, port(0), mac(0)), row(1, port(1), mac(1)), row(2, port(2), mac(2)), row(3, port(3)))
	removes(t, s, -1, api.ErrNone)
	adds(t, s, -1, api.ErrArg)
	chassisAre(t, s, allChassis()...)
}

// TestRemoveOfUsedNoMore: P10.1: one goes that no row names any more: along a port's way, and where another port still names it.
func TestRemoveOfUsedNoMore(t *testing.T) {
	s := made(t, 1, 2, 3)
	does(t, s, from(0, row(0, owner(1), ver(1))))
	removes(t, s, 1, api.ErrUsed)
	removes(t, s, 3, api.OK)
	does(t, s, from(1, row(1, who(1, 2, -1), ver(2))))
	removes(t, s, 1, api.ErrUsed)
	removes(t, s, 2, api.ErrUsed)
	does(t, s, from(2, row(2, who(2, -1, 1), ver(3))))
	removes(t, s, 1, api.ErrUsed)
	removes(t, s, 2, api.ErrUsed)
	does(t, s, from(0, row(0, port(30), mac(4), owner(1), ver(1))))
	does(t, s, from(3, row(0, owner(2), ver(4))))
	removes(t, s, 1, api.ErrUsed)
	does(t, s, from(1, row(3, port(30), mac(4), ver(2))))
	removes(t, s, 1, api.OK)
	removes(t, s, 2, api.ErrUsed)
	does(t, s, from(4, row(3, ver(5))))
	removes(t, s, 2, api.OK)
	chassisAre(t, s)
	holds(t, s, row(3, ver(5)), row(3, port(30), mac(4), ver(2)))
}

// TestRemoveBehindAnError: P10.1: what was not done uses no chassis, and what did not go still does.
func TestRemoveBehindAnError(t *testing.T) {
	s := made(t, 3, 6)
	refuses(t, s, api.ErrStale, from(0, row(1, ver(1))), from(0, row(1, ver(1))))
	removes(t, s, 6, api.OK)
	does(t, s, from(0, row(0, ver(1))))
	refuses(t, s, api.ErrArg, from(1, row(3, ver(2))), from(0, api.Row{}))
	removes(t, s, 3, api.ErrUsed)
	holds(t, s, row(0, ver(1)))
}

// TestChassisRise: P10.1: all chassis are told, rising, whatever the order in which they came, and went.
func TestChassisRise(t *testing.T) {
	for _, step := range []int{1, 3, 5, 7, 9, 11, 13, 15} {
		for start := range 16 {
			s, want := store.New(), []int{}
			for i := range 16 {
				n := (start + i*step) % 16
				adds(t, s, n, api.OK)
				want = append(want, n)
				slices.Sort(want)
				chassisAre(t, s, want...)
			}
			for i := range 16 {
				n := (start + 5 + i*step) % 16
				removes(t, s, n, api.OK)
				want = slices.DeleteFunc(want, func(x int) bool { return x == n })
				chassisAre(t, s, want...)
			}
		}
	}
}
