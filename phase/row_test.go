package phase_test

import (
	"math"
	"slices"
	"testing"

	"rutter/api"
	"rutter/control"
	"rutter/phase"
)

// change changes a row.
type change func(r *api.Row)

func port(n int) change      { return func(r *api.Row) { r.Port = n } }
func mac(n uint64) change    { return func(r *api.Row) { r.MAC = n } }
func owner(n int) change     { return func(r *api.Row) { r.Owner = n } }
func target(n int) change    { return func(r *api.Row) { r.Target = n } }
func old(n int) change       { return func(r *api.Row) { r.Old = n } }
func gen(n int) change       { return func(r *api.Row) { r.Gen = n } }
func in(n api.Phase) change  { return func(r *api.Row) { r.Phase = n } }
func ver(n int) change       { return func(r *api.Row) { r.Ver = n } }
func since(n int) change     { return func(r *api.Row) { r.Since = n } }
func who(o, t, d int) change { return func(r *api.Row) { r.Owner, r.Target, r.Old = o, t, d } }

// row is an ordinary row of that phase, with that changed.
func row(n api.Phase, l ...change) api.Row {
	r := api.Row{Port: 9, MAC: 0x0a0b0c0d0e0f, Gen: 70, Phase: n, Ver: 900, Since: 5000}
	r.Owner, r.Target, r.Old = [...]int{3, 3, 3, -1}[n], [...]int{-1, 6, -1, -1}[n], [...]int{-1, -1, 8, -1}[n]
	return with(r, l...)
}

// with is a row with that changed.
func with(r api.Row, l ...change) api.Row {
	for _, c := range l {
		c(&r)
	}
	return r
}

// each is an ordinary row of each phase, with that changed.
func each(l ...change) []api.Row {
	return []api.Row{row(0, l...), row(1, l...), row(2, l...), row(3, l...)}
}

// is tells whether n is from least to most.
func is(n, least, most int) bool { return least <= n && n <= most }

// rowMayBe is what chapter 6 says of a row, told anew.
func rowMayBe(r api.Row) bool {
	if !is(r.Port, 0, 31) || r.MAC > 1<<48-1 || !is(r.Gen, 1, 1<<32) || !is(r.Ver, 1, 1<<40) || !is(r.Since, 0, 1<<40) {
		return false
	}
	asked, ok := map[api.Phase][3]bool{0: {true, false, false}, 1: {true, true, false}, 2: {true, false, true}, 3: {}}[r.Phase]
	seen := map[int]bool{}
	for i, n := range []int{r.Owner, r.Target, r.Old} {
		if asked[i] && (!is(n, 0, 15) || seen[n]) || !asked[i] && n != -1 {
			return false
		}
		seen[n] = true
	}
	return ok
}

// rightRows are rows that may be: ordinary ones, and the edges of each field, in each phase.
func rightRows() []api.Row {
	l := each()
	for _, n := range []int{0, 31} {
		l = append(l, each(port(n))...)
	}
	for _, n := range []uint64{0, 1, 1<<48 - 1} {
		l = append(l, each(mac(n))...)
	}
	for _, n := range []int{0, 1, 15} {
		l = append(l, row(0, owner(n)), row(1, owner(n)), row(1, target(n)), row(2, owner(n)), row(2, old(n)))
	}
	l = append(l, row(1, who(0, 15, -1)), row(1, who(15, 0, -1)), row(2, who(0, -1, 15)), row(2, who(15, -1, 0)))
	for _, n := range []int{1, 2, 1<<32 - 2, 1<<32 - 1, 1 << 32} {
		l = append(l, each(gen(n))...)
		l = append(l, each(gen(n), ver(1<<40-16))...)
		l = append(l, each(gen(n), ver(1<<40-15))...)
		l = append(l, each(gen(n), ver(1<<40))...)
	}
	for _, n := range []int{1, 2, 1<<40 - 18, 1<<40 - 17, 1<<40 - 16, 1<<40 - 15, 1<<40 - 14, 1<<40 - 2, 1<<40 - 1, 1 << 40} {
		l = append(l, each(ver(n))...)
	}
	for _, n := range []int{0, 1, 1<<40 - 1, 1 << 40} {
		l = append(l, each(since(n))...)
	}
	return l
}

// wrongRows are rows that may not be, each by one thing, and by more of them.
func wrongRows() []api.Row {
	l := []api.Row{{}, row(1, port(-1), mac(1<<48), who(16, 16, 16), gen(0), ver(0), since(-1))}
	for _, n := range []int{math.MinInt, -1, 32, 256 + 9, math.MaxInt} {
		l = append(l, each(port(n))...)
	}
	for _, n := range []uint64{1 << 48, 1<<48 + 7, math.MaxUint64} {
		l = append(l, each(mac(n))...)
	}
	for _, n := range []int{math.MinInt, -1, 0, 1<<32 + 1, 1<<40 + 1, math.MaxInt} {
		l = append(l, each(gen(n))...)
	}
	for _, n := range []int{math.MinInt, -1, 0, 1<<40 + 1, math.MaxInt} {
		l = append(l, each(ver(n))...)
	}
	for _, n := range []int{math.MinInt, -1, 1<<40 + 1, math.MaxInt} {
		l = append(l, each(since(n))...)
	}
	for _, n := range []api.Phase{math.MinInt, -1, 4, 256, 257, 258, 259, math.MaxInt} {
		l = append(l, each(in(n))...)
	}
	for _, n := range []int{math.MinInt, -2, 16, 256 + 3, math.MaxInt} {
		l = append(l, each(owner(n))...)
		l = append(l, each(target(n))...)
		l = append(l, each(old(n))...)
	}
	l = append(l, row(0, owner(-1)), row(1, owner(-1)), row(1, target(-1)), row(2, owner(-1)), row(2, old(-1)))
	for _, n := range []int{0, 1, 15} {
		l = append(l, row(0, target(n)), row(0, old(n)), row(1, old(n)), row(2, target(n)), row(3, owner(n)), row(3, target(n)), row(3, old(n)))
		l = append(l, row(1, who(n, n, -1)), row(2, who(n, -1, n)), row(3, who(n, n, n)))
	}
	return l
}

// TestRowsOfTheTests: the rows that the other tests take are right and wrong ones, as package control tells, too.
func TestRowsOfTheTests(t *testing.T) {
	for i, r := range rightRows() {
		if !rowMayBe(r) || !control.Row(r) {
			t.Errorf("right row %d: %+v", i, r)
		}
	}
	for i, r := range wrongRows() {
		if rowMayBe(r) || control.Row(r) {
			t.Errorf("wrong row %d: %+v", i, r)
		}
	}
}

// ask is an act, and what it is asked with.
type ask struct {
	name                    string
	port                    int
	mac                     uint64
	chassis, ver, now, span int
}

// late stands for the false that Late answers, beside the errors of the others.
const late api.Errno = -1

// do asks the package.
func (a ask) do(r api.Row) (api.Row, api.Errno) {
	switch a.name {
	case "new":
		return phase.New(a.port, a.mac, a.chassis, a.now)
	case "again":
		return phase.Again(r, a.mac, a.chassis, a.now)
	case "start":
		return phase.Start(r, a.chassis, a.now)
	case "awake":
		return phase.Awake(r, a.chassis, a.ver, a.now)
	case "commit":
		return phase.Commit(r, a.now)
	case "abort":
		return phase.Abort(r, a.now)
	case "drop":
		return phase.Drop(r, a.now)
	}
	n, ok := phase.Late(r, a.now, a.span)
	if !ok {
		return n, late
	}
	return n, api.OK
}

// wrongly tells whether what an act is asked with may not be.
func (a ask) wrongly(r api.Row) bool {
	named := slices.Contains([]string{"again", "start", "awake"}, a.name)
	return !rowMayBe(r) || !is(a.now, 0, 1<<40) || named && !is(a.chassis, 0, 15) || a.name == "again" && a.mac > 1<<48-1
}

// refused is the first error that an act has ahead of what would come, told anew.
func (a ask) refused(r api.Row) api.Errno {
	ends := slices.Contains([]string{"again", "start"}, a.name)
	asked := map[string][]api.Phase{"again": {3}, "start": {0}, "awake": {1}, "commit": {1, 2}, "abort": {1}, "drop": {0}}[a.name]
	switch {
	case a.wrongly(r):
		return api.ErrArg
	case !slices.Contains(asked, r.Phase):
		return api.ErrState
	case a.name == "awake" && a.ver != r.Ver:
		return api.ErrState
	case a.name == "start" && a.chassis == r.Owner:
		return api.ErrSame
	case a.name == "awake" && a.chassis != r.Target:
		return api.ErrUsed
	case ends && (r.Gen == 1<<32 || r.Ver > 1<<40-16):
		return api.ErrGen
	}
	return api.OK
}

// told is what the chapter says that an act answers, told anew.
func (a ask) told(r api.Row) (api.Row, api.Errno) {
	if a.name == "late" {
		return a.toldLate(r)
	}
	if a.name == "new" {
		r = api.Row{Port: a.port, MAC: a.mac, Owner: a.chassis, Target: -1, Old: -1, Gen: 1, Ver: 1, Since: a.now}
		if !rowMayBe(r) {
			return api.Row{}, api.ErrArg
		}
		return r, api.OK
	}
	if e := a.refused(r); e != api.OK {
		return api.Row{}, e
	}
	n := r
	n.Ver, n.Since = r.Ver+1, a.now
	switch [2]any{a.name, r.Phase} {
	case [2]any{"again", api.Gone}:
		n.Phase, n.MAC, n.Owner, n.Gen = 0, a.mac, a.chassis, r.Gen+1
	case [2]any{"start", api.Bound}:
		n.Phase, n.Target = 1, a.chassis
	case [2]any{"awake", api.Moving}, [2]any{"commit", api.Moving}:
		n.Phase, n.Owner, n.Target, n.Old, n.Gen = 2, r.Target, -1, r.Owner, r.Gen+1
	case [2]any{"commit", api.Moved}:
		n.Phase, n.Old = 0, -1
	case [2]any{"abort", api.Moving}:
		n.Phase, n.Target = 0, -1
	case [2]any{"drop", api.Bound}:
		n.Phase, n.Owner = 3, -1
	}
	if !rowMayBe(n) {
		return api.Row{}, api.ErrArg
	}
	return n, api.OK
}

// toldLate is what the chapter says of Late, told anew.
func (a ask) toldLate(r api.Row) (api.Row, api.Errno) {
	as, ok := map[api.Phase]string{1: "abort", 2: "commit"}[r.Phase]
	if !ok || !rowMayBe(r) {
		return r, late
	}
	// A span above all times is none that could be over; held against them first, the sum can't wrap round.
	if a.span > 1<<41 || a.now < r.Since+max(a.span, 0) {
		return r, late
	}
	n, e := ask{name: as, now: a.now}.told(r)
	if e != api.OK {
		return r, late
	}
	return n, api.OK
}

// answers checks what an act answers of a row.
func answers(t *testing.T, a ask, r, want api.Row, e api.Errno) {
	t.Helper()
	if got, f := a.do(r); got != want || f != e {
		t.Errorf("%+v of %+v: %+v, %d; want %+v, %d", a, r, got, f, want, e)
	}
}

// fails checks that an act has that error, and that the row beside it has nothing.
func fails(t *testing.T, a ask, r api.Row, e api.Errno) {
	t.Helper()
	answers(t, a, r, api.Row{}, e)
}

// asToldAnew checks an act against what is told anew, and that it is answered so twice.
func asToldAnew(t *testing.T, a ask, r api.Row) {
	t.Helper()
	want, e := a.told(r)
	for range 2 {
		answers(t, a, r, want, e)
	}
}
