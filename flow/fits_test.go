package flow_test

import (
	"math"
	"testing"

	"rutter/flow"
)

// TestFits: P13.1: an entry fits a key of each IN; one thing turned, and it doesn't.
func TestFits(t *testing.T) {
	for in := range 3 {
		fits(t, entry(), key(in), true)
		fits(t, entry(ins(1<<in)), key(in), true)
		fits(t, entry(ins(7-1<<in)), key(in), false)
		fits(t, entry(stamps(4, 4)), key(in), false)
		fits(t, entry(stamps(2, 2)), key(in), false)
		fits(t, entry(not(0)), key(in), false)
	}
	fits(t, entry(mac(1<<41+4)), key(0), false)
	fits(t, entry(port(4)), key(1), false)
	fits(t, entry(port(4)), key(2), false)
	fits(t, flow.Entry{}, flow.Key{}, false)
	fits(t, flow.Entry{Ins: 1}, flow.Key{}, false)
	fits(t, flow.Entry{Ins: 1, Not: 1}, flow.Key{}, true)
}

// TestFitsIns: P13.1: an entry is for the INs whose bits of the lowest three are set, whatever the others are.
func TestFitsIns(t *testing.T) {
	for low, want := range [][3]bool{
		{false, false, false}, {true, false, false}, {false, true, false}, {true, true, false},
		{false, false, true}, {true, false, true}, {false, true, true}, {true, true, true},
	} {
		for _, high := range []int{0, 8, 16, 24, 1 << 32, math.MaxInt - 7, -8, -16, -24, -1 << 32, math.MinInt} {
			for in := range 3 {
				fits(t, entry(ins(high+low)), key(in), want[in])
			}
		}
	}
	for in := range 3 {
		fits(t, entry(ins(-1)), key(in), true)
	}
}

// TestFitsWrongIn: P13.1: none fits a key of another IN, whatever the entry is for.
func TestFitsWrongIn(t *testing.T) {
	l := []int{math.MinInt, math.MinInt + 1, math.MinInt + 2, -1 << 32, -256, -64, -63, -62, -8, -3, -2, -1, 3, 4, 5, 7, 8, 31, 32, 61, 62, 63, 64, 65, 66, 255, 256, 257, 1 << 32, 1<<32 + 1, 1<<32 + 2, math.MaxInt}
	for _, in := range l {
		for _, n := range []int{0, 1, 2, 4, 7, 8, 15, 1 << 62, math.MaxInt, math.MinInt, -1} {
			fits(t, entry(ins(n)), key(in), false)
			fits(t, entry(ins(n), mac(0), port(0), stamps(0, 0)), flow.Key{In: in}, false)
		}
	}
}

// TestFitsMAC: P13.1: of a guest the MAC is the key's, and the PORT is nothing to it.
func TestFitsMAC(t *testing.T) {
	for _, m := range macs() {
		for _, n := range macs() {
			fits(t, entry(mac(m)), key(0, keyMAC(n)), m == n)
			for _, p := range edges() {
				fits(t, entry(mac(m), port(p)), key(0, keyMAC(n)), m == n)
				fits(t, entry(mac(m)), key(0, keyMAC(n), keyPort(p)), m == n)
			}
		}
	}
}

// TestFitsPort: P13.1: of a tunnel the PORT is the key's, and the MAC is nothing to it.
func TestFitsPort(t *testing.T) {
	for in := 1; in <= 2; in++ {
		for _, m := range edges() {
			for _, n := range edges() {
				fits(t, entry(port(m)), key(in, keyPort(n)), m == n)
				for _, a := range macs() {
					fits(t, entry(port(m), mac(a)), key(in, keyPort(n)), m == n)
					fits(t, entry(port(m)), key(in, keyPort(n), keyMAC(a)), m == n)
				}
			}
		}
	}
}

// TestFitsStamp: P13.1: the STAMP is FROM, UPTO, or between, of each IN; where FROM is above UPTO, there is none.
func TestFitsStamp(t *testing.T) {
	for in := range 3 {
		for _, x := range []struct {
			from, upto int
			want       [6]bool // of 1 to 6
		}{
			{2, 4, [6]bool{false, true, true, true}}, {3, 3, [6]bool{false, false, true}}, {2, 3, [6]bool{false, true, true}},
			{3, 2, [6]bool{}}, {4, 2, [6]bool{}}, {math.MaxInt, math.MinInt, [6]bool{}}, {0, 0, [6]bool{}}, {-4, -2, [6]bool{}},
			{math.MinInt, math.MaxInt, [6]bool{true, true, true, true, true, true}}, {math.MinInt, 2, [6]bool{true, true}}, {5, math.MaxInt, [6]bool{4: true, 5: true}},
		} {
			for i, want := range x.want {
				fits(t, entry(stamps(x.from, x.upto)), key(in, stamp(1+i)), want)
			}
		}
		for _, a := range edges() {
			fits(t, entry(stamps(a, a)), key(in, stamp(a)), true)
			for _, b := range edges() {
				for _, n := range edges() {
					fits(t, entry(stamps(a, b)), key(in, stamp(n)), a <= n && n <= b)
				}
			}
		}
	}
}

// TestFitsOrigin: P13.1: the ORIGIN is not NOT, of each IN.
func TestFitsOrigin(t *testing.T) {
	for in := range 3 {
		for _, m := range edges() {
			for _, n := range edges() {
				fits(t, entry(not(m)), key(in, origin(n)), m != n)
			}
		}
	}
}

// TestFitsOfAnyRank: P13.1: what an entry does, and its PRIO, are nothing to whether it fits.
func TestFitsOfAnyRank(t *testing.T) {
	for in := -1; in <= 3; in++ {
		for _, n := range edges() {
			fits(t, entry(prio(n)), key(in), in >= 0 && in <= 2)
			fits(t, entry(does(n, n, n)), key(in), in >= 0 && in <= 2)
			fits(t, entry(prio(n), not(0)), key(in), false)
		}
	}
}

// TestFitsAll: P13.1: all of few values of each field, held against what is told anew.
func TestFitsAll(t *testing.T) {
	seen := map[bool]int{}
	for _, e := range fewEntries() {
		for _, k := range fewKeys() {
			want := plainFits(e, k)
			seen[want]++
			fits(t, e, k, want)
		}
	}
	if seen[true] < 500 || seen[false] < 1000 {
		t.Errorf("%v", seen)
	}
}

// fewEntries are all of few values of each field.
func fewEntries() []flow.Entry {
	var l []flow.Entry
	for n := -1; n < 9; n++ {
		for m := range uint64(2) {
			for p := range 2 {
				for _, s := range [][2]int{{1, 2}, {2, 2}, {2, 1}} {
					for o := -1; o < 1; o++ {
						l = append(l, entry(ins(n), mac(m), port(p), stamps(s[0], s[1]), not(o)))
					}
				}
			}
		}
	}
	return l
}

// fewKeys are all of few values of each field.
func fewKeys() []flow.Key {
	var l []flow.Key
	for in := -1; in < 4; in++ {
		for m := range uint64(2) {
			for p := range 2 {
				for s := range 4 {
					for o := -1; o < 1; o++ {
						l = append(l, key(in, keyMAC(m), keyPort(p), stamp(s), origin(o)))
					}
				}
			}
		}
	}
	return l
}

// FuzzFits: P13.1, P1: any entry and any key, and a table of it; go test runs the seeds alone.
func FuzzFits(f *testing.F) {
	for _, n := range edges() {
		f.Add(7, uint64(n), n, n, n, 9, n, 0, uint64(n), n, n, 8, 1)
		f.Add(n, uint64(1), 1, 0, 5, -1, 1, 1, uint64(2), 1, n, 0, n)
		f.Add(-1, uint64(1), n, -5, n, n, n, 2, uint64(1), n, 3, n, 0)
		f.Add(n, uint64(n), 2, n, 7, 0, n, n, uint64(n), n, 7, -1, n)
	}
	f.Fuzz(func(t *testing.T, insOf int, m uint64, p, from, upto, no, rank, in int, km uint64, kp, st, or, kind int) {
		e := entry(ins(insOf), mac(m), port(p), stamps(from, upto), not(no), prio(rank), does(kind, p, st))
		k := flow.Key{In: in, MAC: km, Port: kp, Stamp: st, Origin: or}
		fits(t, e, k, plainFits(e, k))
		for _, l := range [][]flow.Entry{{e}, {entry(), e}, {e, entry(), e}, {entry(prio(rank)), e, entry(prio(no))}} {
			has(t, made(t, l...), l, k, key(in), key(0), key(1, keyPort(kp)))
		}
	})
}
