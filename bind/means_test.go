package bind_test

import (
	"math"
	"testing"

	"rutter/api"
	"rutter/bind"
	"rutter/flow"
)

// TestMeans: P14.1: what a row of each phase means at each chassis, and at those that are none, of a key of each IN.
func TestMeans(t *testing.T) {
	at := map[api.Phase]map[int][3]int{ // the kinds of IN 0, 1 and 2 at these chassis; at the others they are sent of IN 0
		api.Bound:  {4: {1, 1, 1}},
		api.Moving: {4: {1, 1, 1}, 7: {2, 0, 0}},
		api.Moved:  {4: {1, 1, 1}, 7: {2, 2, 0}},
	}
	for _, p := range phases() {
		for chassis := -1; chassis <= 16; chassis++ {
			want, ok := at[p][chassis]
			if !ok && p != api.Gone {
				want = [3]int{2, 0, 0}
			}
			for in, kind := range want {
				means(t, row(p), chassis, key(in), does(row(p), kind))
			}
			means(t, row(p), chassis, key(-1), flow.Action{})
			means(t, row(p), chassis, key(3), flow.Action{})
		}
	}
}

// TestActions: P14.1: an action's KIND, PORT, TO and GEN, each told by itself.
func TestActions(t *testing.T) {
	for p := range 32 {
		r := row(api.Moved, port(p), owner((p+1)%16), old((p+2)%16), gen(100+p))
		to, from := (p+1)%16, (p+2)%16
		k := flow.Key{In: 1, Port: p, Stamp: 100 + p, Origin: (p + 3) % 16}
		means(t, r, to, k, flow.Action{Kind: 1, Port: p, To: to, Gen: 100 + p})
		means(t, r, from, k, flow.Action{Kind: 2, Port: p, To: to, Gen: 100 + p})
		k.In = 2
		means(t, r, to, k, flow.Action{Kind: 1, Port: p, To: to, Gen: 100 + p})
		means(t, r, from, k, flow.Action{})
		k = flow.Key{MAC: own, Origin: -1}
		means(t, r, to, k, flow.Action{Kind: 1, Port: p, To: to, Gen: 100 + p})
		means(t, r, from, k, flow.Action{Kind: 2, Port: p, To: to, Gen: 100 + p})
		means(t, r, (p+3)%16, k, flow.Action{Kind: 2, Port: p, To: to, Gen: 100 + p})
	}
	for _, n := range []int{1, 2, 255, 1<<32 - 1, 1 << 32} {
		means(t, row(api.Bound, gen(n)), 4, key(0), flow.Action{Kind: 1, Port: 3, To: 4, Gen: n})
		means(t, row(api.Bound, gen(n)), 5, key(0), flow.Action{Kind: 2, Port: 3, To: 4, Gen: n})
	}
}

// TestFirstCase: P14.1: of the cases the first one counts, where a later one would hold too.
func TestFirstCase(t *testing.T) {
	gone := row(api.Gone, owner(4), old(7))
	for in := range 3 {
		means(t, gone, 4, key(in), flow.Action{})           // gone, ahead of its owner,
		means(t, gone, 7, key(in), flow.Action{})           // of what IN 0 is sent,
		means(t, gone, 4, key(in, stamp(6)), flow.Action{}) // and of the stamp
	}
	for _, p := range phases()[:3] {
		for in := range 3 {
			means(t, row(p), 4, key(in, stamp(6)), flow.Action{})            // the stamp, ahead of the owner,
			means(t, row(p), 7, key(in, stamp(6)), flow.Action{})            // and of what is sent
			means(t, row(p), 4, key(in, origin(4)), does(row(p), 1))         // the owner, ahead of where it came from,
			means(t, row(p, old(4)), 4, key(in), does(row(p), 1))            // of what has moved away from there,
			means(t, row(p, old(4)), 4, key(in, origin(4)), does(row(p), 1)) // and of both
		}
		means(t, row(p), 4, key(0), does(row(p), 1))            // and of IN 0
		means(t, row(p), 5, key(0, origin(4)), does(row(p), 2)) // IN 0, ahead of where it came from,
		means(t, row(p), 7, key(0, origin(4)), does(row(p), 2)) // also at the old one
		means(t, row(p), 5, key(0, origin(5)), does(row(p), 2)) // or from there
		means(t, row(p), 7, key(0, origin(7), stamp(5)), does(row(p), 2))
	}
	means(t, row(api.Moved), 7, key(0), does(row(api.Moved), 2))
	means(t, row(api.Moved), 7, key(1), does(row(api.Moved), 2))
	means(t, row(api.Moved), 7, key(2), flow.Action{})
	means(t, row(api.Moved), 7, key(1, origin(4)), flow.Action{})
	means(t, row(api.Moved), 7, key(2, origin(4)), flow.Action{})
}

// TestOldAlone: P14.1: what came through a tunnel is sent on by the old one alone, of a row that has moved, and Normal.
func TestOldAlone(t *testing.T) {
	for chassis := -1; chassis <= 16; chassis++ {
		for o := -1; o <= 16; o++ {
			kind := 0
			if chassis == 7 && o != 4 {
				kind = 2
			}
			if chassis == 4 {
				kind = 1
			}
			means(t, row(api.Moved), chassis, key(1, origin(o)), does(row(api.Moved), kind))
			if kind == 2 {
				kind = 0
			}
			means(t, row(api.Moved), chassis, key(2, origin(o)), does(row(api.Moved), kind))
			means(t, row(api.Moving), chassis, key(1, origin(o)), does(row(api.Moving), kind))
			means(t, row(api.Bound), chassis, key(1, origin(o)), does(row(api.Bound), kind))
		}
	}
	for _, p := range append(wrongPhases(), api.Bound, api.Moving) {
		means(t, row(p, old(7)), 7, key(1), flow.Action{}) // it names an old one, but hasn't moved
		means(t, row(p, old(7)), 7, key(0), does(row(p), 2))
		means(t, row(p, old(7)), 4, key(1), does(row(p), 1))
	}
}

// TestKeys: P14.1: a guest's key is a row's by its MAC, whatever the PORT, a tunnel's by its PORT, whatever the MAC.
func TestKeys(t *testing.T) {
	for _, m := range macs() {
		r := row(api.Moved, mac(m))
		for _, n := range macs() {
			kind := map[bool]int{true: 1}[m == n]
			means(t, r, 4, key(0, keyMAC(n)), does(r, kind))
			means(t, r, 5, key(0, keyMAC(n)), does(r, 2*kind))
			means(t, r, 7, key(0, keyMAC(n)), does(r, 2*kind))
			for _, p := range edges() {
				means(t, r, 4, key(0, keyMAC(n), keyPort(p)), does(r, kind))
				means(t, r, 7, key(0, keyMAC(n), keyPort(p)), does(r, 2*kind))
			}
			for in := 1; in <= 2; in++ {
				means(t, r, 4, key(in, keyMAC(n)), does(r, 1))
			}
			means(t, r, 7, key(1, keyMAC(n)), does(r, 2))
		}
	}
	for _, m := range edges() {
		r := row(api.Moved, port(m))
		for _, n := range edges() {
			kind := map[bool]int{true: 1}[m == n]
			means(t, r, 4, key(1, keyPort(n)), does(r, kind))
			means(t, r, 4, key(2, keyPort(n), keyMAC(own)), does(r, kind))
			means(t, r, 7, key(1, keyPort(n), keyMAC(own)), does(r, 2*kind))
		}
	}
}

// TestOtherIns: P14.1: keys of other INs are no row's.
func TestOtherIns(t *testing.T) {
	l := []int{math.MinInt, math.MinInt + 1, math.MinInt + 2, -1 << 32, -256, -64, -3, -2, -1, 3, 4, 5, 7, 8, 64, 255, 256, 257, 1 << 32, 1<<32 + 1, 1<<32 + 2, math.MaxInt}
	for _, in := range l {
		for _, p := range append(phases(), wrongPhases()...) {
			for chassis := -1; chassis <= 16; chassis++ {
				means(t, row(p), chassis, key(in, keyMAC(own)), flow.Action{})
				means(t, row(p), chassis, key(in, keyMAC(own), origin(-1), stamp(0)), flow.Action{})
			}
		}
		means(t, api.Row{}, 0, flow.Key{In: in}, flow.Action{})
	}
}

// TestStamps: P14.1: a stamp that is the row's Gen, or less, 0 and below 0, too; one above it means nothing.
func TestStamps(t *testing.T) {
	for _, n := range []int{1, 2, 5, 1<<32 - 1, 1 << 32} {
		r := row(api.Moved, gen(n))
		for _, s := range []int{math.MinInt, -1 << 32, -1, 0, 1, n - 1, n} {
			for in := range 3 {
				means(t, r, 4, key(in, stamp(s)), does(r, 1))
			}
			means(t, r, 5, key(0, stamp(s)), does(r, 2))
			means(t, r, 7, key(1, stamp(s)), does(r, 2))
		}
		for _, s := range []int{n + 1, n + 2, n + 1<<32, math.MaxInt} {
			for in := range 3 {
				for chassis := -1; chassis <= 16; chassis++ {
					means(t, r, chassis, key(in, stamp(s)), flow.Action{})
				}
			}
		}
	}
}

// TestNoOthersCount: P14.1: a row's Target, Ver and Since, and a key's ORIGIN of a guest, are nothing to it.
func TestNoOthersCount(t *testing.T) {
	for _, p := range append(phases(), wrongPhases()...) {
		for _, n := range edges() {
			for in := range 3 {
				for _, chassis := range []int{-1, 4, 5, 7, 16, n} {
					want := bind.Means(row(p), chassis, key(in))
					means(t, row(p, target(n)), chassis, key(in), want)
					means(t, row(p, ver(n), since(n)), chassis, key(in), want)
					means(t, row(p, target(chassis), ver(n)), chassis, key(in), want)
				}
				means(t, row(p), 5, key(0, origin(n)), bind.Means(row(p), 5, key(0)))
			}
		}
	}
}

// TestWrongRows: P14.1, P1: what a row that may not be means, as it says: any number in each field, also the least and the greatest.
func TestWrongRows(t *testing.T) {
	for _, p := range append(phases(), wrongPhases()...) {
		for _, n := range edges() {
			for _, r := range []api.Row{
				row(p, owner(n)), row(p, old(n)), row(p, target(n)), row(p, gen(n)), row(p, port(n)), row(p, mac(uint64(n))),
				row(p, owner(n), old(n)), row(p, owner(n), target(n), old(n), gen(n), ver(n), since(n)),
				{Port: n, MAC: uint64(n), Owner: n, Target: n, Old: n, Gen: n, Phase: p, Ver: n, Since: n},
			} {
				for in := -1; in <= 3; in++ {
					for _, k := range []flow.Key{key(in), key(in, keyMAC(r.MAC), keyPort(r.Port), stamp(r.Gen)), key(in, origin(n)), key(in, stamp(n), origin(r.Owner)), {In: in, MAC: uint64(n), Port: n, Stamp: n, Origin: n}} {
						for _, chassis := range []int{n, -1, 0, 4, 7, 16, math.MinInt, math.MaxInt} {
							means(t, r, chassis, k, plainMeans(r, chassis, k))
						}
					}
				}
			}
		}
	}
	means(t, api.Row{}, 0, flow.Key{}, flow.Action{Kind: 1})
	means(t, api.Row{}, 1, flow.Key{}, flow.Action{Kind: 2})
	means(t, api.Row{Owner: -1}, -1, flow.Key{In: 2}, flow.Action{Kind: 1, To: -1})
	means(t, row(api.Bound, owner(-1)), 4, key(0), flow.Action{Kind: 2, Port: 3, To: -1, Gen: 5})
	means(t, row(api.Bound, owner(16)), 16, key(1), flow.Action{Kind: 1, Port: 3, To: 16, Gen: 5})
	means(t, row(api.Bound, gen(0)), 4, key(1, stamp(0)), flow.Action{Kind: 1, Port: 3, To: 4})
	means(t, row(api.Bound, gen(-1)), 4, key(1, stamp(0)), flow.Action{})
	means(t, row(api.Moved, old(-1)), -1, key(1), flow.Action{Kind: 2, Port: 3, To: 4, Gen: 5})
	means(t, row(api.Moved, old(4)), 4, key(1, origin(4)), flow.Action{Kind: 1, Port: 3, To: 4, Gen: 5})
}

// TestMeansAll: P14.1: all of few rows, at each chassis, of all of few keys, held against what is told anew; each kind comes often.
func TestMeansAll(t *testing.T) {
	seen := map[int]int{}
	for _, p := range phases() {
		for _, at := range [][2]int{{0, 1}, {1, 0}, {1, 1}, {15, 0}, {-1, -1}, {-1, 0}, {0, -1}} {
			r := row(p, owner(at[0]), old(at[1]), target(at[1]), gen(2))
			for chassis := -1; chassis <= 16; chassis++ {
				for in := -1; in <= 3; in++ {
					for s := -1; s <= 3; s++ {
						for o := -1; o <= 16; o++ {
							for _, k := range []flow.Key{key(in, stamp(s), origin(o)), key(in, stamp(s), origin(o), keyPort(4), keyMAC(4))} {
								want := plainMeans(r, chassis, k)
								seen[want.Kind]++
								means(t, r, chassis, k, want)
							}
						}
					}
				}
			}
		}
	}
	if seen[0] < 1000 || seen[1] < 1000 || seen[2] < 1000 {
		t.Errorf("%v", seen)
	}
}
