package store_test

import (
	"math"
	"testing"

	"rutter/api"
	"rutter/store"
)

// TestApplyNothing: P10.1: no change is done without an error, to an empty store, and to a full one.
func TestApplyNothing(t *testing.T) {
	does(t, store.New())
	s := wide(t, row(0), row(1, port(4), mac(4)))
	does(t, s)
	does(t, s, []store.Change{}...)
	holds(t, s, row(0), row(1, port(4), mac(4)))
}

// TestApplyOne: P10.1: a first row, of any phase, at the edges of each field, and the next one of its port.
func TestApplyOne(t *testing.T) {
	for _, r := range rightRows() {
		s := wide(t)
		does(t, s, from(0, r))
		holds(t, s, r)
		for _, n := range rightRows() {
			s := wide(t, r)
			n.Port, n.Ver = r.Port, 901
			does(t, s, from(900, n))
			holds(t, s, n)
		}
	}
}

// TestApplySeveral: P10.1: several changes, to several ports, in any order of these.
func TestApplySeveral(t *testing.T) {
	a, b, c := row(0, port(31), mac(1)), row(1, port(0), mac(2)), row(2, port(7), mac(3))
	for _, l := range [][]store.Change{
		{from(0, a), from(0, b), from(0, c)},
		{from(0, c), from(0, a), from(0, b)},
		{from(0, b), from(0, c), from(0, a)},
	} {
		s := wide(t)
		does(t, s, l...)
		holds(t, s, a, b, c)
		d := row(3, port(8))
		does(t, s, from(900, with(a, ver(901))), from(0, d), from(900, with(c, ver(950))))
		holds(t, s, with(a, ver(901)), b, with(c, ver(950)), d)
	}
}

// TestApplyFull: P10.1: a row of each port, in one call, and then the next one of each.
func TestApplyFull(t *testing.T) {
	for _, step := range []int{1, 11, 31} {
		s := wide(t)
		var l, next []store.Change
		for i := range 32 {
			n := (5 + i*step) % 32
			r := row(api.Phase(n%4), port(n), mac(uint64(n)), ver(n+1))
			l, next = append(l, from(0, r)), append(next, from(n+1, with(r, ver(n+2))))
		}
		does(t, s, l...)
		refuses(t, s, api.ErrStale, l...)
		does(t, s, next...)
		if n := len(s.Rows()); n != 32 {
			t.Errorf("%d rows", n)
		}
	}
}

// TestApplyToOnePort: P10.1: several to one port, one behind the other, of which the later ones fit only behind those ahead.
func TestApplyToOnePort(t *testing.T) {
	first, second, third := from(0, row(0, ver(1))), from(1, row(1, ver(2))), from(2, row(2, ver(7)))
	s := wide(t)
	refuses(t, s, api.ErrStale, second)
	refuses(t, s, api.ErrStale, third)
	refuses(t, s, api.ErrStale, second, first)
	refuses(t, s, api.ErrStale, first, third, second)
	refuses(t, s, api.ErrStale, first, first)
	does(t, s, first, second, third)
	holds(t, s, third.Row)
	refuses(t, s, api.ErrStale, first)
	refuses(t, s, api.ErrStale, second)
	refuses(t, s, api.ErrStale, third)
	does(t, s, from(7, row(0, ver(8))), from(8, row(3, ver(9))), from(9, row(0, mac(5), ver(10))))
	holds(t, s, row(0, mac(5), ver(10)))
}

// TestApplyOfAFirstRow: P10.1: a port that has no row has the WAS 0, and no other.
func TestApplyOfAFirstRow(t *testing.T) {
	for _, n := range []int{math.MinInt, math.MinInt + 1, -901, -900, -2, -1, 1, 2, 898, 899} {
		for _, r := range each() {
			refuses(t, wide(t), api.ErrStale, from(n, r))
			refuses(t, wide(t, row(0, port(10), mac(1), ver(max(n, 1)))), api.ErrStale, from(n, r))
		}
	}
	for _, r := range each() {
		for _, n := range []int{1, 2, 900, 1<<40 - 1, 1 << 40} {
			does(t, wide(t), from(0, with(r, ver(n))))
		}
	}
}

// TestApplyOfAWrongWas: P10.1: a port that has a row has its version as WAS, and no other, of those that are below the Ver.
func TestApplyOfAWrongWas(t *testing.T) {
	for _, r := range each() {
		s := wide(t, r)
		for _, n := range []int{math.MinInt, -900, -1, 0, 1, 898, 899, 901, 902, 1<<32 + 900, 1<<40 - 1} {
			refuses(t, s, api.ErrStale, from(n, with(r, ver(1<<40))))
		}
		does(t, s, from(900, with(r, ver(1<<40))))
		refuses(t, s, api.ErrStale, from(900, with(r, ver(1<<40))))
	}
}

// TestApplyOfAWrongVer: P10.1: a Ver is above WAS, by one or by many; else it is ErrArg, also where WAS is not the store's version.
func TestApplyOfAWrongVer(t *testing.T) {
	for _, n := range []int{901, 902, 1000, 1 << 39, 1<<40 - 1, 1 << 40} {
		does(t, wide(t, row(0)), from(900, row(1, ver(n))))
	}
	for _, n := range []int{math.MinInt, -1, 0, 1, 899, 900} {
		refuses(t, wide(t, row(0)), api.ErrArg, from(900, row(1, ver(n))))
	}
	for _, n := range []int{1<<40 + 1, math.MaxInt} {
		refuses(t, wide(t, row(0)), api.ErrArg, from(900, row(1, ver(n))))
	}
	for _, was := range []int{900, 901, 1 << 40, 1<<40 + 1, math.MaxInt} {
		refuses(t, wide(t), api.ErrArg, from(was, row(0)))
		refuses(t, wide(t, row(0, ver(5))), api.ErrArg, from(was, row(0)))
	}
	refuses(t, wide(t), api.ErrArg, from(0, row(0, ver(0))))
	refuses(t, wide(t), api.ErrArg, from(-5, row(0, ver(0))))
	refuses(t, wide(t), api.ErrArg, from(-5, row(0, ver(-4))))
}

// TestApplyOfAWrongRow: P10.1: a row that may not be, in each of its fields, is ErrArg, as a first one and as the next one.
func TestApplyOfAWrongRow(t *testing.T) {
	for _, r := range wrongRows() {
		refuses(t, wide(t), api.ErrArg, from(0, r))
		refuses(t, wide(t, row(0, ver(899))), api.ErrArg, from(899, r))
		refuses(t, store.New(), api.ErrArg, from(0, r))
	}
}

// TestApplyOfAMissingChassis: P10.1: a row names only chassis that are there, as Owner, as Target, and as Old; a row that is gone names none.
func TestApplyOfAMissingChassis(t *testing.T) {
	for _, r := range rightRows() {
		for n := range 16 {
			s, used := wide(t), n == r.Owner || n == r.Target || n == r.Old
			removes(t, s, n, api.OK)
			if used {
				refuses(t, s, api.ErrNone, from(0, r))
				adds(t, s, n, api.OK)
			}
			does(t, s, from(0, r))
		}
	}
	s := store.New()
	does(t, s, from(0, row(3)))
	for _, r := range each(ver(901))[:3] {
		refuses(t, s, api.ErrNone, from(900, r))
	}
	chassisAre(t, s)
}

// TestApplyOfChassisAlone: P10.1: a row needs no other chassis than those that it names.
func TestApplyOfChassisAlone(t *testing.T) {
	does(t, made(t, 3), from(0, row(0)))
	does(t, made(t, 3, 6), from(0, row(1)))
	does(t, made(t, 3, 8), from(0, row(2)))
	refuses(t, made(t, 6, 8), api.ErrNone, from(0, row(0)))
	refuses(t, made(t, 3, 8), api.ErrNone, from(0, row(1)))
	refuses(t, made(t, 6, 8), api.ErrNone, from(0, row(1)))
	refuses(t, made(t, 3, 6), api.ErrNone, from(0, row(2)))
	refuses(t, made(t, 6, 8), api.ErrNone, from(0, row(2)))
}

// TestApplyOfATakenAddress: P10.1: no row that is not gone has the address of another port's that is not gone.
func TestApplyOfATakenAddress(t *testing.T) {
	for _, n := range []uint64{0, 1, 0x0a0b0c0d0e0f, 1<<48 - 1} {
		for _, there := range each(port(2), mac(n)) {
			for _, p := range []int{0, 1, 3, 31} {
				for _, r := range each(port(p), mac(n)) {
					s := wide(t, there)
					if there.Phase == api.Gone || r.Phase == api.Gone {
						does(t, s, from(0, r))
						continue
					}
					refuses(t, s, api.ErrTwice, from(0, r))
					does(t, s, from(0, with(r, mac(n^1))))
					refuses(t, s, api.ErrTwice, from(900, with(r, ver(901))))
				}
			}
		}
	}
}

// TestApplyOfItsOwnAddress: P10.1: a port's own address, whatever its row was, is no other's; it may also change.
func TestApplyOfItsOwnAddress(t *testing.T) {
	for _, was := range each() {
		for _, r := range each(ver(901)) {
			s := wide(t, was, row(0, port(1), mac(1)), row(0, port(30), mac(30)), row(3, port(31)))
			does(t, s, from(900, r))
			does(t, s, from(901, with(r, mac(2), ver(902))))
			does(t, s, from(900, row(1, port(30), ver(901))))
		}
	}
}

// TestApplyOfAnAddressAhead: P10.1: an address is free, or taken, as it is behind the changes ahead in the same call.
func TestApplyOfAnAddressAhead(t *testing.T) {
	a, b := row(0, port(1), mac(1)), row(0, port(2), mac(2))
	goes, moves := from(900, row(3, port(1), mac(1), ver(901))), from(900, with(a, mac(3), ver(901)))
	takes := from(900, with(b, mac(1), ver(901)))
	s := wide(t, a, b)
	refuses(t, s, api.ErrTwice, takes)
	refuses(t, s, api.ErrTwice, takes, goes)
	refuses(t, s, api.ErrTwice, takes, moves)
	does(t, s, goes, takes)
	does(t, wide(t, a, b), moves, takes)
	comes := from(0, row(2, port(0), mac(7)))
	late := from(900, with(b, mac(7), ver(901)))
	s = wide(t, a, b)
	refuses(t, s, api.ErrTwice, comes, late)
	refuses(t, s, api.ErrTwice, late, comes)
	does(t, s, late)
	refuses(t, wide(t, a, b), api.ErrTwice, from(900, with(a, mac(2), ver(901))), takes)
	does(t, wide(t, a, b), moves, takes, from(901, with(a, mac(2), ver(902))))
}

// TestApplyBoundAgain: P10.1: a row that is gone is bound again, with its address, with a new one, and not with one that another port took meanwhile.
func TestApplyBoundAgain(t *testing.T) {
	gone, again := row(3, ver(2)), row(0, gen(71), ver(3))
	does(t, wide(t, gone), from(2, again))
	does(t, wide(t, gone), from(2, with(again, mac(1), owner(15))))
	s := wide(t, gone)
	other := row(0, port(20))
	does(t, s, from(0, other))
	refuses(t, s, api.ErrTwice, from(2, again))
	refuses(t, s, api.ErrTwice, from(2, with(again, in(api.Moving), target(5))))
	does(t, s, from(2, with(gone, ver(3))))
	does(t, s, from(3, with(again, mac(1), ver(4))))
	does(t, s, from(900, row(3, port(20), ver(901))))
	does(t, s, from(4, with(again, ver(5))))
	refuses(t, s, api.ErrTwice, from(901, with(other, ver(902))))
}

// TestApplyOfAFallingGen: P10.1: a change that fits may have any Gen: whether it falls is of the acts.
func TestApplyOfAFallingGen(t *testing.T) {
	s := wide(t, row(0))
	does(t, s, from(900, row(0, gen(1), ver(901))))
	does(t, s, from(901, row(0, gen(1<<32), ver(902))))
}

// TestErrorsOfAChange: P10.1: where several apply to a change, it is ErrArg, ErrNone, ErrStale, ErrTwice, in this order.
func TestErrorsOfAChange(t *testing.T) {
	s := made(t, 3, 6, 8)
	does(t, s, from(0, row(0)), from(0, row(0, port(1), mac(1))))
	r := row(0, port(1), ver(901))
	away := with(r, owner(5))
	refuses(t, s, api.ErrArg, from(1, with(away, ver(1))))
	refuses(t, s, api.ErrArg, from(1, with(away, since(-1))))
	refuses(t, s, api.ErrArg, from(900, with(away, ver(900))))
	refuses(t, s, api.ErrArg, from(901, r))
	refuses(t, s, api.ErrNone, from(1, away))
	refuses(t, s, api.ErrNone, from(900, away))
	refuses(t, s, api.ErrNone, from(1, with(away, mac(2))))
	refuses(t, s, api.ErrStale, from(1, r))
	refuses(t, s, api.ErrStale, from(0, r))
	refuses(t, s, api.ErrTwice, from(900, r))
	refuses(t, s, api.ErrStale, from(1, with(r, mac(2))))
	does(t, s, from(900, with(r, mac(2))))
}

// wrongOnes are changes to a store of chassis 3, 6 and 8, and the rows of ports 9 and 1, each with an error, whatever other ports' rows are.
func wrongOnes() map[api.Errno]store.Change {
	return map[api.Errno]store.Change{
		api.ErrArg:   from(900, row(0, port(1), mac(1), ver(900))),
		api.ErrNone:  from(900, row(0, port(1), mac(1), owner(5), ver(901))),
		api.ErrStale: from(899, row(0, port(1), mac(1), ver(901))),
		api.ErrTwice: from(900, row(0, port(1), ver(901))),
	}
}

// TestAllOrNone: P10.2, P10.1: the first change that has an error tells it, and then none is done: with the wrong one first, last, and between.
func TestAllOrNone(t *testing.T) {
	good := []store.Change{from(0, row(1, port(0), mac(10))), from(900, row(1, port(9), ver(901))), from(0, row(3, port(31))), from(901, row(2, port(9), ver(902)))}
	for e, wrong := range wrongOnes() {
		s := made(t, 3, 6, 8)
		does(t, s, from(0, row(0)), from(0, row(0, port(1), mac(1))))
		refuses(t, s, e, wrong)
		for i := range len(good) + 1 {
			l := append(append(append([]store.Change{}, good[:i]...), wrong), good[i:]...)
			refuses(t, s, e, l...)
			for f, other := range wrongOnes() {
				refuses(t, s, e, append(l, other)...)
				refuses(t, s, f, append([]store.Change{other}, l...)...)
			}
		}
		does(t, s, good...)
	}
}

// TestVersionsAreUsedUp: P10.1: behind an error a version is as good as it was, and behind a change it is over.
func TestVersionsAreUsedUp(t *testing.T) {
	s := wide(t, row(0))
	next := from(900, row(1, ver(901)))
	refuses(t, s, api.ErrArg, next, from(901, api.Row{}))
	does(t, s, next)
	refuses(t, s, api.ErrStale, next)
	refuses(t, s, api.ErrStale, from(900, row(0, ver(902))))
	does(t, s, from(901, row(0, ver(902))))
}
