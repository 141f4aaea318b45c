package control_test

import (
	"math"
	"testing"

	"rutter/api"
	"rutter/control"
)

// change changes a row.
type change func(r *api.Row)

func port(n int) change        { return func(r *api.Row) { r.Port = n } }
func mac(n uint64) change      { return func(r *api.Row) { r.MAC = n } }
func owner(n int) change       { return func(r *api.Row) { r.Owner = n } }
func target(n int) change      { return func(r *api.Row) { r.Target = n } }
func old(n int) change         { return func(r *api.Row) { r.Old = n } }
func gen(n int) change         { return func(r *api.Row) { r.Gen = n } }
func phase(n api.Phase) change { return func(r *api.Row) { r.Phase = n } }
func ver(n int) change         { return func(r *api.Row) { r.Ver = n } }
func since(n int) change       { return func(r *api.Row) { r.Since = n } }

// who changes whom a row names.
func who(o, t, d int) change {
	return func(r *api.Row) { r.Owner, r.Target, r.Old = o, t, d }
}

// row is an ordinary row of that phase, whose numbers all differ, with that changed.
func row(n api.Phase, l ...change) api.Row {
	names := [4][3]int{{3, -1, -1}, {3, 6, -1}, {3, -1, 8}, {-1, -1, -1}}[n]
	r := api.Row{Port: 9, MAC: 0x0a0b0c0d0e0f, Phase: n, Gen: 0x02030405, Ver: 0x1112131415, Since: 0x2122232425}
	r.Owner, r.Target, r.Old = names[0], names[1], names[2]
	for _, c := range l {
		c(&r)
	}
	return r
}

// all are ordinary rows of each phase, each with one thing changed.
func all(c ...change) []api.Row {
	var l []api.Row
	for _, x := range c {
		l = append(l, row(0, x), row(1, x), row(2, x), row(3, x))
	}
	return l
}

// is tells whether n is from least to most.
func is(n, least, most int) bool { return least <= n && n <= most }

// rowMayBe is what the chapter says of a row, told anew.
func rowMayBe(r api.Row) bool {
	if !is(r.Port, 0, 31) || r.MAC > 281474976710655 || !is(r.Gen, 1, 4294967296) {
		return false
	}
	if !is(r.Ver, 1, 1099511627776) || !is(r.Since, 0, 1099511627776) {
		return false
	}
	asked, ok := map[api.Phase][3]bool{0: {true, false, false}, 1: {true, true, false}, 2: {true, false, true}, 3: {}}[r.Phase]
	if !ok {
		return false
	}
	seen := map[int]bool{}
	for i, n := range []int{r.Owner, r.Target, r.Old} {
		if asked[i] && (!is(n, 0, 15) || seen[n]) || !asked[i] && n != -1 {
			return false
		}
		seen[n] = true
	}
	return true
}

// rightRows are rows that may be: ordinary ones, and the edges of each field.
func rightRows() []api.Row {
	l := []api.Row{row(0), row(1), row(2), row(3)}
	for _, n := range []int{0, 1, 15, 16, 30, 31} {
		l = append(l, all(port(n))...)
	}
	for _, n := range []uint64{0, 1, 255, 1 << 32, 1 << 47, 1<<48 - 2, 1<<48 - 1} {
		l = append(l, all(mac(n))...)
	}
	for _, n := range []int{0, 1, 2, 14, 15} {
		l = append(l, row(0, owner(n)), row(1, owner(n)), row(1, target(n)), row(2, owner(n)), row(2, old(n)))
	}
	for _, n := range []int{1, 2, 255, 256, 1<<31 - 1, 1 << 31, 1<<32 - 1, 1 << 32} {
		l = append(l, all(gen(n))...)
	}
	for _, n := range []int{1, 2, 255, 256, 1 << 32, 1<<32 + 1, 1<<40 - 1, 1 << 40} {
		l = append(l, all(ver(n), since(n))...)
	}
	l = append(l, all(since(0))...)
	least := api.Row{Owner: 0, Target: -1, Old: -1, Gen: 1, Ver: 1}
	gone := api.Row{Owner: -1, Target: -1, Old: -1, Phase: 3, Gen: 1, Ver: 1}
	most := api.Row{Port: 31, MAC: 1<<48 - 1, Owner: 15, Target: -1, Old: 14, Phase: 2, Gen: 1 << 32, Ver: 1 << 40, Since: 1 << 40}
	return append(l, least, gone, most)
}

// beyond are numbers far out of what any field may be; some have a right one in their lowest bytes.
func beyond() []int {
	return []int{math.MinInt64, math.MinInt64 + 3, -1 << 32, -256, -253, 1<<40 + 5, 1 << 41, 1 << 48, 1<<48 + 3, 1 << 56, math.MaxInt64}
}

// wrongRows are rows that may not be, each by one thing, and by more of them.
func wrongRows() []api.Row {
	l := []api.Row{{}, {Owner: -1, Target: -1, Old: -1, Phase: 3}}
	for _, n := range append(beyond(), -2, -1, 32, 33, 255, 256, 256+9, 1<<32+9) {
		l = append(l, all(port(n))...)
	}
	for _, n := range []uint64{1 << 48, 1<<48 + 1, 1 << 49, 1<<48 + 0x0a0b0c0d0e0f, 1 << 63, 1<<64 - 1} {
		l = append(l, all(mac(n))...)
	}
	for _, n := range append(beyond(), -1, 0, 1<<32+1, 1<<32+2, 1<<33) {
		l = append(l, all(gen(n))...)
	}
	for _, n := range append(beyond(), -1, 0, 1<<40+1) {
		l = append(l, all(ver(n))...)
	}
	for _, n := range append(beyond(), -2, -1, 1<<40+1) {
		l = append(l, all(since(n))...)
	}
	for _, n := range append(beyond(), -1, 4, 5, 255, 256, 257, 258, 259, 1<<32, 1<<32+1) {
		l = append(l, all(phase(api.Phase(n)))...)
	}
	for _, n := range append(beyond(), -2, 16, 17, 255, 256, 256+3, 1<<32+3) {
		l = append(l, all(owner(n), target(n), old(n))...)
	}
	l = append(l, row(0, owner(-1)), row(1, owner(-1)), row(1, target(-1)), row(2, owner(-1)), row(2, old(-1)))
	for _, n := range []int{0, 1, 9, 15} {
		l = append(l, row(0, target(n)), row(0, old(n)), row(1, old(n)), row(2, target(n)))
		l = append(l, row(3, owner(n)), row(3, target(n)), row(3, old(n)))
		l = append(l, row(1, who(n, n, -1)), row(2, who(n, -1, n)), row(0, who(n, n, -1)), row(0, who(n, -1, n)), row(3, who(n, n, n)))
	}
	return append(l, row(1, port(-1), mac(1<<48), who(16, 16, 16), gen(0), ver(0), since(-1)))
}

// TestRow: P6.1: which rows may be, at each edge.
func TestRow(t *testing.T) {
	for i, r := range rightRows() {
		if !rowMayBe(r) {
			t.Fatalf("right row %d: the test is wrong", i)
		}
		if !control.Row(r) {
			t.Errorf("right row %d: %+v", i, r)
		}
	}
	for i, r := range wrongRows() {
		if rowMayBe(r) {
			t.Fatalf("wrong row %d: the test is wrong", i)
		}
		if control.Row(r) {
			t.Errorf("wrong row %d: %+v", i, r)
		}
	}
}

// TestRowWho: P6.1: in each phase, whoever is named; and how many ways there are.
func TestRowWho(t *testing.T) {
	for n, want := range map[api.Phase]int{-1: 0, 0: 16, 1: 16 * 15, 2: 16 * 15, 3: 1, 4: 0} {
		count := 0
		for x := range 20 * 20 * 20 {
			r := row(0, phase(n), who(x%20-2, x/20%20-2, x/400-2))
			got := control.Row(r)
			if got != rowMayBe(r) {
				t.Errorf("phase %d: %d %d %d: %t", n, r.Owner, r.Target, r.Old, got)
			}
			if got {
				count++
			}
		}
		if count != want {
			t.Errorf("phase %d: %d; want %d", n, count, want)
		}
	}
}

// TestRowEdges: P6.1: all edges of the numbers with one another, in each phase.
func TestRowEdges(t *testing.T) {
	times := []int{-1, 0, 1, 1 << 40, 1<<40 + 1}
	for _, n := range []int{-1, 0, 31, 32} {
		for _, m := range []uint64{0, 1<<48 - 1, 1 << 48, 1<<64 - 1} {
			for _, g := range []int{0, 1, 1 << 32, 1<<32 + 1} {
				for i := range len(times) * len(times) {
					for _, r := range all(func(r *api.Row) {
						r.Port, r.MAC, r.Gen, r.Ver, r.Since = n, m, g, times[i%len(times)], times[i/len(times)]
					}) {
						if got := control.Row(r); got != rowMayBe(r) {
							t.Errorf("%+v: %t", r, got)
						}
					}
				}
			}
		}
	}
}

// TestRowBits: P6.1: no number wraps round: of each, each bit far up makes that it may not be.
func TestRowBits(t *testing.T) {
	for _, r := range []api.Row{row(0), row(1), row(2), row(3)} {
		for k := range 64 {
			for i, c := range []change{
				func(r *api.Row) { r.Port ^= 1 << k },
				func(r *api.Row) { r.MAC ^= 1 << k },
				func(r *api.Row) { r.Owner ^= 1 << k },
				func(r *api.Row) { r.Target ^= 1 << k },
				func(r *api.Row) { r.Old ^= 1 << k },
				func(r *api.Row) { r.Gen ^= 1 << k },
				func(r *api.Row) { r.Phase ^= 1 << k },
				func(r *api.Row) { r.Ver ^= 1 << k },
				func(r *api.Row) { r.Since ^= 1 << k },
			} {
				x := r
				c(&x)
				if got := control.Row(x); got != rowMayBe(x) || got && k > 47 {
					t.Errorf("phase %d, field %d, bit %d: %t", r.Phase, i, k, got)
				}
			}
		}
	}
}
