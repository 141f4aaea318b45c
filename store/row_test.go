package store_test

import (
	"fmt"
	"math"
	"slices"
	"testing"

	"rutter/api"
	"rutter/control"
	"rutter/store"
)

// turn changes a row.
type turn func(r *api.Row)

func port(n int) turn      { return func(r *api.Row) { r.Port = n } }
func mac(n uint64) turn    { return func(r *api.Row) { r.MAC = n } }
func owner(n int) turn     { return func(r *api.Row) { r.Owner = n } }
func target(n int) turn    { return func(r *api.Row) { r.Target = n } }
func old(n int) turn       { return func(r *api.Row) { r.Old = n } }
func gen(n int) turn       { return func(r *api.Row) { r.Gen = n } }
func in(n api.Phase) turn  { return func(r *api.Row) { r.Phase = n } }
func ver(n int) turn       { return func(r *api.Row) { r.Ver = n } }
func since(n int) turn     { return func(r *api.Row) { r.Since = n } }
func who(o, t, d int) turn { return func(r *api.Row) { r.Owner, r.Target, r.Old = o, t, d } }

// row is an ordinary row of that phase, with that changed.
func row(n api.Phase, l ...turn) api.Row {
	r := api.Row{Port: 9, MAC: 0x0a0b0c0d0e0f, Gen: 70, Phase: n, Ver: 900, Since: 5000}
	r.Owner, r.Target, r.Old = [...]int{3, 3, 3, -1}[n], [...]int{-1, 6, -1, -1}[n], [...]int{-1, -1, 8, -1}[n]
	return with(r, l...)
}

// with is a row with that changed.
func with(r api.Row, l ...turn) api.Row {
	for _, c := range l {
		c(&r)
	}
	return r
}

// each is an ordinary row of each phase, with that changed.
func each(l ...turn) []api.Row {
	return []api.Row{row(0, l...), row(1, l...), row(2, l...), row(3, l...)}
}

// is tells whether n is from least to most.
func is(n, least, most int) bool { return least <= n && n <= most }

// rowMayBe is what chapter 6 says of a row, told anew.
func rowMayBe(r api.Row) bool {
	if !is(r.Port, 0, 31) || r.MAC > 1<<48-1 || !is(r.Gen, 1, 1<<32) || !is(r.Ver, 1, 1<<40) || !is(r.Since, 0, 1<<40) {
		return false
	}
	asked, ok := map[api.Phase][3]bool{0: {true, false, false}, 1: {true, true, false}, 2: {true, false, true}, 3: {}}[r.Phase]
	seen := map[int]bool{}
	for i, n := range []int{r.Owner, r.Target, r.Old} {
		if asked[i] && (!is(n, 0, 15) || seen[n]) || !asked[i] && n != -1 {
			return false
		}
		seen[n] = true
	}
	return ok
}

// rightRows are rows that may be, of version 900: ordinary ones, and the edges of each field, in each phase.
func rightRows() []api.Row {
	l := each()
	for _, n := range []int{0, 31} {
		l = append(l, each(port(n))...)
	}
	for _, n := range []uint64{0, 1, 1<<48 - 1} {
		l = append(l, each(mac(n))...)
	}
	for _, n := range []int{0, 1, 15} {
		l = append(l, row(0, owner(n)), row(1, owner(n)), row(1, target(n)), row(2, owner(n)), row(2, old(n)))
	}
	for _, n := range []int{1, 2, 1<<32 - 1, 1 << 32} {
		l = append(l, each(gen(n))...)
	}
	for _, n := range []int{0, 1, 1<<40 - 1, 1 << 40} {
		l = append(l, each(since(n))...)
	}
	return l
}

// wrongRows are rows that may not be, each by one field, and by more of them; their versions may be.
func wrongRows() []api.Row {
	l := []api.Row{{Ver: 900}, row(1, port(-1), mac(1<<48), who(16, 16, 16), gen(0), since(-1))}
	for _, n := range []int{math.MinInt, -1, 32, 256 + 9, math.MaxInt} {
		l = append(l, each(port(n))...)
	}
	for _, n := range []uint64{1 << 48, 1<<48 + 7, math.MaxUint64} {
		l = append(l, each(mac(n))...)
	}
	for _, n := range []int{math.MinInt, -1, 0, 1<<32 + 1, math.MaxInt} {
		l = append(l, each(gen(n))...)
	}
	for _, n := range []int{math.MinInt, -1, 1<<40 + 1, math.MaxInt} {
		l = append(l, each(since(n))...)
	}
	for _, n := range []api.Phase{math.MinInt, -1, 4, 256, 257, 258, 259, math.MaxInt} {
		l = append(l, each(in(n))...)
	}
	for _, n := range []int{math.MinInt, -2, 16, 256 + 3, math.MaxInt} {
		l = append(l, each(owner(n))...)
		l = append(l, each(target(n))...)
		l = append(l, each(old(n))...)
	}
	l = append(l, row(0, owner(-1)), row(1, owner(-1)), row(1, target(-1)), row(2, owner(-1)), row(2, old(-1)))
	for _, n := range []int{0, 1, 15} {
		l = append(l, row(0, target(n)), row(0, old(n)), row(1, old(n)), row(2, target(n)), row(3, owner(n)), row(3, target(n)), row(3, old(n)))
		l = append(l, row(1, who(n, n, -1)), row(2, who(n, -1, n)), row(3, who(n, n, n)))
	}
	return l
}

// TestRowsOfTheTests: the rows that the other tests take are right and wrong ones, as package control tells, too.
func TestRowsOfTheTests(t *testing.T) {
	for i, r := range rightRows() {
		if !rowMayBe(r) || !control.Row(r) {
			t.Errorf("right row %d: %+v", i, r)
		}
	}
	for i, r := range wrongRows() {
		if rowMayBe(r) || control.Row(r) {
			t.Errorf("wrong row %d: %+v", i, r)
		}
	}
}

// from is the change to a row, of that version.
func from(was int, r api.Row) store.Change { return store.Change{Row: r, Was: was} }

// made is a store with these chassis.
func made(t *testing.T, l ...int) *store.Store {
	t.Helper()
	s := store.New()
	for _, n := range l {
		if e := s.Add(n); e != api.OK {
			t.Fatalf("Add %d: %d", n, e)
		}
	}
	return s
}

// allChassis are all that there may be, rising.
func allChassis() []int {
	var l []int
	for n := range 16 {
		l = append(l, n)
	}
	return l
}

// wide is a store with all chassis, and with these rows.
func wide(t *testing.T, l ...api.Row) *store.Store {
	t.Helper()
	s := made(t, allChassis()...)
	for _, r := range l {
		if e := s.Apply(from(0, r)); e != api.OK {
			t.Fatalf("Apply %+v: %d", r, e)
		}
	}
	return s
}

// holds checks that a store has these rows and no others, whatever their order here.
func holds(t *testing.T, s *store.Store, l ...api.Row) {
	t.Helper()
	l = slices.Clone(l)
	slices.SortFunc(l, func(a, b api.Row) int { return a.Port - b.Port })
	if got := s.Rows(); !slices.Equal(got, l) {
		t.Errorf("Rows: %+v; want %+v", got, l)
	}
	for n := -1; n <= 32; n++ {
		var want api.Row
		i := slices.IndexFunc(l, func(r api.Row) bool { return r.Port == n })
		if i >= 0 {
			want = l[i]
		}
		if got, ok := s.Row(n); got != want || ok != (i >= 0) {
			t.Errorf("Row %d: %+v, %t; want %+v", n, got, ok, want)
		}
	}
}

// look is all that a store answers of itself, to be held against what it answers later.
func look(s *store.Store) string {
	text := fmt.Sprintln(s.Chassis(), s.Rows(), s.Late(1<<40, 0), s.Late(6000, 1000))
	for n := -1; n <= 32; n++ {
		r, ok := s.Row(n)
		text += fmt.Sprintln(n, s.Has(n), r, ok)
	}
	for _, r := range append(s.Rows(), each()...) {
		got, ok := s.Find(r.MAC)
		text += fmt.Sprintln(r.MAC, got, ok)
	}
	return text
}

// does checks that all changes are done, and nothing else.
func does(t *testing.T, s *store.Store, l ...store.Change) {
	t.Helper()
	chassis, rows := s.Chassis(), map[int]api.Row{}
	for _, r := range s.Rows() {
		rows[r.Port] = r
	}
	for _, c := range l {
		rows[c.Row.Port] = c.Row
	}
	if e := s.Apply(l...); e != api.OK {
		t.Fatalf("Apply %+v: %d", l, e)
	}
	var want []api.Row
	for _, r := range rows {
		want = append(want, r)
	}
	holds(t, s, want...)
	if got := s.Chassis(); !slices.Equal(got, chassis) {
		t.Errorf("Apply %+v: chassis %d; want %d", l, got, chassis)
	}
}

// refuses checks that changes have that error, and that none is done.
func refuses(t *testing.T, s *store.Store, e api.Errno, l ...store.Change) {
	t.Helper()
	was := look(s)
	for range 2 {
		if got := s.Apply(l...); got != e {
			t.Errorf("Apply %+v: %d; want %d", l, got, e)
		}
		if now := look(s); now != was {
			t.Fatalf("Apply %+v: %s; was %s", l, now, was)
		}
	}
}
