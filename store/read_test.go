package store_test

import (
	"math"
	"slices"
	"testing"

	"rutter/api"
	"rutter/store"
)

// finds checks that an address is that row's.
func finds(t *testing.T, s *store.Store, n uint64, want api.Row) {
	t.Helper()
	if got, ok := s.Find(n); got != want || !ok {
		t.Errorf("Find %#x: %+v, %t; want %+v", n, got, ok, want)
	}
}

// findsNone checks that an address is no row's.
func findsNone(t *testing.T, s *store.Store, l ...uint64) {
	t.Helper()
	for _, n := range l {
		if got, ok := s.Find(n); ok || got != (api.Row{}) {
			t.Errorf("Find %#x: %+v, %t", n, got, ok)
		}
	}
}

// TestRow: P10.1: a port's row, at the edges; nothing of one that has none, or that can't be.
func TestRow(t *testing.T) {
	a, b, c := row(0, port(0), mac(1)), row(1, port(31), mac(2)), row(3, port(8), mac(3))
	s := wide(t, a, b, c)
	for n, want := range map[int]api.Row{0: a, 31: b, 8: c} {
		if got, ok := s.Row(n); got != want || !ok {
			t.Errorf("Row %d: %+v, %t", n, got, ok)
		}
	}
	for _, n := range []int{math.MinInt, -32, -2, -1, 1, 7, 9, 30, 32, 33, 256, 1 << 32, 1<<32 + 8, math.MaxInt} {
		if got, ok := s.Row(n); ok || got != (api.Row{}) {
			t.Errorf("Row %d: %+v, %t", n, got, ok)
		}
	}
	does(t, s, from(900, with(a, ver(901))))
	if got, ok := s.Row(0); got != with(a, ver(901)) || !ok {
		t.Errorf("%+v, %t", got, ok)
	}
}

// TestRowsRise: P10.1: all rows, by ports, rising, whatever the order in which they came; of an empty store none.
func TestRowsRise(t *testing.T) {
	for step := 1; step < 32; step += 2 {
		for _, start := range []int{0, 1, 17, 31} {
			s := wide(t)
			holds(t, s)
			var want []api.Row
			for i := range 32 {
				n := (start + i*step) % 32
				want = append(want, row(api.Phase(i%4), port(n), mac(uint64(31-n))))
				does(t, s, from(0, want[i]))
			}
			slices.SortFunc(want, func(a, b api.Row) int { return a.Port - b.Port })
			if got := s.Rows(); !slices.Equal(got, want) {
				t.Fatalf("%+v; want %+v", got, want)
			}
		}
	}
}

// TestRowsOfPortsThatAreGone: P10.1: what is gone is still a row.
func TestRowsOfPortsThatAreGone(t *testing.T) {
	s := wide(t, row(0), row(0, port(2), mac(2)))
	does(t, s, from(900, row(3, ver(901))))
	holds(t, s, row(3, ver(901)), row(0, port(2), mac(2)))
	does(t, s, from(900, row(3, port(2), ver(901))))
	holds(t, s, row(3, ver(901)), row(3, port(2), ver(901)))
}

// TestFind: P10.1: the row of an address, at the edges; nothing of one that no row has, or that can't be.
func TestFind(t *testing.T) {
	a, b, c := row(0, port(30), mac(0)), row(1, port(1), mac(1<<48-1)), row(2, port(0), mac(7))
	wrong := []uint64{1, 2, 6, 8, 1<<48 - 2, 1 << 48, 1<<48 + 7, 1 << 63, math.MaxUint64}
	s := wide(t, a, b, c)
	finds(t, s, 0, a)
	finds(t, s, 1<<48-1, b)
	finds(t, s, 7, c)
	findsNone(t, s, wrong...)
	s = wide(t, c)
	findsNone(t, s, append(wrong, 0, 1<<48-1)...)
	findsNone(t, wide(t), append(wrong, 0, 7, 1<<48-1)...)
}

// TestFindOfPortsThatAreGone: P10.1: an address of a row that is gone is nobody's, or that of who took it; also where that has a greater port.
func TestFindOfPortsThatAreGone(t *testing.T) {
	for _, p := range []int{0, 8, 10, 31} {
		s := wide(t, row(3))
		findsNone(t, s, row(3).MAC)
		taken := row(0, port(p))
		does(t, s, from(0, taken))
		finds(t, s, taken.MAC, taken)
		does(t, s, from(900, row(3, port(p), ver(901))))
		findsNone(t, s, taken.MAC)
		again := row(0, gen(71), ver(901))
		does(t, s, from(900, again))
		finds(t, s, again.MAC, again)
	}
}

// TestFindAlongAWay: P10.1: what is found is the row as it is now, and not by an address that it had.
func TestFindAlongAWay(t *testing.T) {
	s := wide(t, row(0, ver(1)), row(0, port(1), mac(1)))
	for v, r := range []api.Row{row(1, ver(2)), row(2, ver(3)), row(0, ver(4)), row(0, mac(5), ver(5))} {
		does(t, s, from(v+1, r))
		finds(t, s, r.MAC, r)
		finds(t, s, 1, row(0, port(1), mac(1)))
	}
	findsNone(t, s, row(0).MAC)
	refuses(t, s, api.ErrArg, from(5, row(0, ver(6))), from(0, api.Row{}))
	findsNone(t, s, row(0).MAC)
}

// TestNil: P10.1, P1: on a nil store each call with an error is ErrArg, whatever it is asked with, and the others have nothing.
func TestNil(t *testing.T) {
	var s *store.Store
	for _, n := range append(wrongChassis(), allChassis()...) {
		adds(t, s, n, api.ErrArg)
		removes(t, s, n, api.ErrArg)
		if r, ok := s.Row(n); ok || r != (api.Row{}) {
			t.Errorf("Row %d: %+v, %t", n, r, ok)
		}
		if l := s.Late(n, n); len(l) != 0 {
			t.Errorf("Late %d: %+v", n, l)
		}
	}
	chassisAre(t, s)
	holds(t, s)
	findsNone(t, s, 0, 7, 1<<48-1, 1<<48)
	refuses(t, s, api.ErrArg)
	refuses(t, s, api.ErrArg, from(0, row(3)))
	refuses(t, s, api.ErrArg, from(0, row(0)))
	refuses(t, s, api.ErrArg, from(5, row(0)))
	refuses(t, s, api.ErrArg, from(0, api.Row{}), from(0, row(0)))
}
