package bind_test

import (
	"math"
	"slices"
	"testing"

	"rutter/api"
	"rutter/bind"
	"rutter/flow"
)

// some are rows that stand, of all phases, ports and addresses apart; of which two that are not gone have one.
func some() []api.Row {
	return []api.Row{
		row(api.Gone, port(0), mac(10)),
		row(api.Moved, port(31), mac(11), owner(0), old(15), gen(1)),
		row(api.Bound, port(3), mac(12), owner(15), gen(2)),
		row(api.Moving, port(4), mac(13), owner(1), target(2), gen(1<<32)),
		row(api.Moved, port(5), mac(13), owner(2), old(1), gen(7)),
		row(api.Gone, port(6), mac(14), gen(9)),
		row(api.Bound, port(7), mac(14), owner(0), gen(3)),
		row(api.Bound, port(8), mac(11), owner(9), gen(4)),
		row(api.Moving, port(9), mac(0), owner(15), target(0), gen(1)),
		row(api.Moved, port(1), mac(api.MaxMAC), owner(8), old(9), gen(1<<32-1)),
	}
}

// someKeys are the keys that are named, of those rows and of none, with stamps around each Gen.
func someKeys() []flow.Key {
	var ports, stamps []int
	macs := []uint64{0, 1, 9, 15, own, api.MaxMAC, api.MaxMAC - 1, 1 << 48, math.MaxUint64}
	for _, r := range some() {
		ports, macs = append(ports, r.Port), append(macs, r.MAC)
		stamps = append(stamps, r.Gen-1, r.Gen, r.Gen+1)
	}
	slices.Sort(stamps)
	return named(append(ports, 2, 30, -1, 32), macs, append(slices.Compact(stamps), -1, math.MinInt, math.MaxInt)...)
}

// TestTable: P14.1: what a table of rows tells of each key that is named, at each chassis, and at those that are none: what the first row means which means something, or nothing.
func TestTable(t *testing.T) {
	l, keys := some(), someKeys()
	for chassis := -1; chassis <= 16; chassis++ {
		right(t, chassis, l, keys...)
	}
	slices.Reverse(l)
	for chassis := -1; chassis <= 16; chassis++ {
		right(t, chassis, l, keys...)
	}
}

// TestTableOfNone: P14.1: of no rows, and of rows that are gone, there is none.
func TestTableOfNone(t *testing.T) {
	gone := []api.Row{row(api.Gone), row(api.Gone, port(4)), row(api.Gone, port(31), mac(0))}
	for chassis := -1; chassis <= 16; chassis++ {
		for n := range len(gone) + 1 {
			s := made(t, chassis, gone[:n]...)
			if n == 0 && len(s.Entries()) != 0 {
				t.Errorf("%+v", s.Entries())
			}
			right(t, chassis, gone[:n])
			for _, k := range named([]int{3, 4, 0, 31}, []uint64{own, 0, 1}, 0, 1, 5) {
				tells(t, s, k, flow.Action{})
			}
		}
	}
	if l := bind.Compile(4); len(l) != 0 {
		t.Errorf("%+v", l)
	}
}

// TestTableOfOne: P14.1: a row of each phase: what a table tells, in numbers, at the owner, the old one, the target, and others.
func TestTableOfOne(t *testing.T) {
	for _, p := range phases()[:3] {
		r := row(p)
		for chassis := -1; chassis <= 16; chassis++ {
			s := made(t, chassis, r)
			guests, normal, forward := 2, 0, 0
			switch {
			case chassis == 4:
				guests, normal, forward = 1, 1, 1
			case chassis == 7 && p == api.Moved:
				normal = 2
			}
			tells(t, s, key(0), does(r, guests))
			tells(t, s, key(0, keyMAC(own+1)), flow.Action{})
			for o := range 16 {
				for _, g := range []int{math.MinInt, -1, 0, 1, 4, 5} {
					back := normal == 2 && o == 4
					tells(t, s, key(1, origin(o), stamp(g)), does(r, map[bool]int{false: normal}[back]))
					tells(t, s, key(2, origin(o), stamp(g)), does(r, forward))
				}
				for _, k := range []flow.Key{key(1, origin(o), stamp(6)), key(2, origin(o), stamp(math.MaxInt)), key(1, origin(o), keyPort(4)), key(2, origin(o), keyPort(2), keyMAC(own))} {
					tells(t, s, k, flow.Action{})
				}
			}
		}
	}
}

// TestTableOfEach: P14.1: each row alone, each two of them in both orders, each three of one address or more.
func TestTableOfEach(t *testing.T) {
	l := some()
	for i, a := range l {
		for j, b := range l {
			two := []api.Row{a, b}
			if i == j {
				two = two[:1]
			}
			keys := named([]int{a.Port, b.Port}, []uint64{a.MAC, b.MAC}, a.Gen, a.Gen+1, b.Gen, b.Gen+1)
			for _, chassis := range []int{-1, 0, 1, 2, 8, 9, 15, 16} {
				right(t, chassis, two, keys...)
			}
		}
	}
}

// TestFirstRow: P14.1: of rows of one address the first that isn't gone tells where a guest's frame goes; each tells of its own port.
func TestFirstRow(t *testing.T) {
	gone, a, b := row(api.Gone, port(2)), row(api.Bound, owner(1), gen(8)), row(api.Moved, port(4), owner(2), old(1), gen(6))
	for _, x := range []struct {
		l    []api.Row
		want api.Row
	}{
		{[]api.Row{a, b}, a}, {[]api.Row{b, a}, b}, {[]api.Row{gone, a, b}, a}, {[]api.Row{b, gone, a}, b}, {[]api.Row{gone, b}, b}, {[]api.Row{a, gone}, a},
	} {
		for chassis := -1; chassis <= 16; chassis++ {
			kind := 2
			if chassis == x.want.Owner {
				kind = 1
			}
			s := made(t, chassis, x.l...)
			tells(t, s, key(0), does(x.want, kind))
			right(t, chassis, x.l, named([]int{2, 3, 4}, []uint64{own}, 0, 5, 6, 7, 8, 9)...)
		}
	}
	tells(t, made(t, 1, a, b), key(1, stamp(8)), does(a, 1))
	tells(t, made(t, 1, a, b), key(1, keyPort(4), stamp(6), origin(3)), does(b, 2))
	tells(t, made(t, 2, a, b), key(2, keyPort(4), stamp(6)), does(b, 1))
	tells(t, made(t, 2, a, b), key(0), does(a, 2)) // the second is here, but the first one counts
}

// TestAllPorts: P14.1: rows of all 32 ports, each at another place, all with addresses of their own, or all with one: two entries of each at most.
func TestAllPorts(t *testing.T) {
	for _, apart := range []uint64{1, 0} {
		for _, p := range append(phases(), -1) {
			var l []api.Row
			for n := range 32 {
				which := p
				if p < 0 {
					which = phases()[n%4]
				}
				r := row(which, port(n), mac(own+apart*uint64(n)), gen(1+n))
				if which != api.Gone {
					r.Owner = n % 16
				}
				if which == api.Moving {
					r.Target = (n + 5) % 16
				}
				if which == api.Moved {
					r.Old = (n + 1 + n/16) % 16
				}
				l = append(l, r)
			}
			for chassis := -1; chassis <= 16; chassis++ {
				right(t, chassis, l, allKeys()...)
			}
		}
	}
}

// allKeys are keys of all ports, and of their addresses.
func allKeys() []flow.Key {
	var l []flow.Key
	for n := -1; n <= 32; n++ {
		l = append(l, named([]int{n}, []uint64{own + uint64(n)}, 0, n, n+1, n+2)...)
	}
	return l
}

// TestOldEverywhere: P14.1: where all 32 ports have moved away from one chassis, all that still comes there is sent on, but back.
func TestOldEverywhere(t *testing.T) {
	var l []api.Row
	for n := range 32 {
		l = append(l, row(api.Moved, port(n), mac(uint64(n)), owner(n%15), old(15)))
	}
	s := made(t, 15, l...)
	for n, r := range l {
		tells(t, s, key(0, keyMAC(uint64(n))), does(r, 2))
		for o := range 16 {
			tells(t, s, key(1, keyPort(n), origin(o)), does(r, map[bool]int{true: 2}[o != n%15]))
			tells(t, s, key(2, keyPort(n), origin(o)), flow.Action{})
			tells(t, s, key(1, keyPort(n), origin(o), stamp(6)), flow.Action{})
		}
	}
	right(t, 15, l, allKeys()...)
}

// TestTableIsOfCompile: P14.1: a table is one of what Compile tells: the same entries, at any chassis.
func TestTableIsOfCompile(t *testing.T) {
	for _, chassis := range edges() {
		for n := range len(some()) + 1 {
			l := some()[:n]
			if a, b := made(t, chassis, l...).Entries(), bind.Compile(chassis, l...); !slices.Equal(a, b) {
				t.Errorf("at %d: %+v; want %+v", chassis, a, b)
			}
		}
	}
}

// TestTableError: P14.1: the error of a table of entries that are too many, of rows that don't stand; of as many as there may be, none.
func TestTableError(t *testing.T) {
	for _, r := range []api.Row{row(api.Bound), row(api.Moving), row(api.Moved), row(api.Gone), row(7), {}} {
		for _, chassis := range []int{-1, 0, 4, 7, 16} {
			each := len(bind.Compile(chassis, r))
			for _, n := range []int{32, 127, 128, 129, 255, 256, 257, 300, 1 << 16} {
				l := slices.Repeat([]api.Row{r}, n)
				if all := len(bind.Compile(chassis, l...)); all != n*each || each > 2 {
					t.Errorf("%d entries of %d rows, %d of one", all, n, each)
				}
				s, e := bind.Table(chassis, l...)
				if n*each > flow.Most && (s != nil || e != api.ErrFull) || n*each <= flow.Most && (s == nil || e != api.OK) {
					t.Errorf("%d of %+v at %d: %v, %d", n, r, chassis, s, e)
				}
			}
		}
	}
	if s, e := bind.Table(4, slices.Repeat([]api.Row{row(api.Bound)}, 257)...); s != nil || e != api.ErrFull {
		t.Errorf("%v, %d", s, e)
	}
}

// TestRowsThatDontStand: P1: of rows that may not be, or are of one port, every call ends, and has two entries of each at most.
func TestRowsThatDontStand(t *testing.T) {
	for _, p := range append(phases(), wrongPhases()...) {
		for _, n := range edges() {
			l := []api.Row{row(p, owner(n)), row(p, old(n), gen(n)), row(p, port(n), mac(uint64(n))), {Port: n, MAC: uint64(n), Owner: n, Target: n, Old: n, Gen: n, Phase: p}}
			l = append(l, l...)
			for _, chassis := range []int{n, -1, 0, 4, 7, 16} {
				s := compiled(t, chassis, l)
				made(t, chassis, l...).Look(key(0))
				for in := -1; in <= 3; in++ {
					s.Look(key(in, stamp(n), origin(n)))
				}
			}
		}
	}
}

// TestTableOfOnePort: P14.1: an elder row of a port behind a later one: each call ends, and the first one tells of a guest.
func TestTableOfOnePort(t *testing.T) {
	a, b := row(api.Bound, owner(1), gen(2)), row(api.Bound, owner(2), gen(1))
	tells(t, made(t, 0, a, b), key(0), does(a, 2))
	tells(t, made(t, 0, b, a), key(0), does(b, 2))
	tells(t, made(t, 0, a, a), key(0), does(a, 2))
}
