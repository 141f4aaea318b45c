package audit_test

import (
	"testing"

	"rutter/api"
)

// TestTwiceOfNone: P21.1: of a nil world, of a new one, of one whose agents have no rows, and of an ordinary one, there is none.
func TestTwiceOfNone(t *testing.T) {
	once(t, nil)
	once(t, made(t))
	once(t, made(t, all()...))
	once(t, town(t))
}

// TestTwice: P21.1: two agents of which each has a row of one port, of one generation, and owns it: that of the greater chassis is told.
func TestTwice(t *testing.T) {
	w := made(t, 1, 2)
	believes(t, w, 2, bound(3, 2, 5, 9))
	once(t, w)
	fine(t, w, true)
	believes(t, w, 1, moving(3, 1, 4, 5, 8))
	both(t, w, bound(3, 2, 5, 9))
	believes(t, w, 1, moved(3, 1, 2, 5, 10))
	both(t, w, bound(3, 2, 5, 9))
	believes(t, w, 2, moving(3, 2, 1, 5, 12))
	both(t, w, moving(3, 2, 1, 5, 12))
}

// TestTwiceAtAny: P21.1: any two chassis, at the least and the greatest port, in whichever order they heard of it.
func TestTwiceAtAny(t *testing.T) {
	for lesser := range 16 {
		for greater := range 16 {
			if lesser >= greater {
				continue
			}
			for _, port := range []int{0, 31} {
				w := made(t, lesser, greater)
				believes(t, w, lesser, bound(port, lesser, 1<<32, 1))
				once(t, w)
				believes(t, w, greater, bound(port, greater, 1<<32, 1<<40))
				both(t, w, bound(port, greater, 1<<32, 1<<40))
			}
		}
	}
}

// mirrored is a row with chassis 1 and 2 changed over.
func mirrored(r api.Row) api.Row {
	for _, n := range []*int{&r.Owner, &r.Target, &r.Old} {
		if *n == 1 || *n == 2 {
			*n = 3 - *n
		}
	}
	return r
}

// TestTwiceOfOthers: P21.1: rows of other generations, of other ports, and of other owners are no one's twice, whether the lesser chassis has them, or the greater.
func TestTwiceOfOthers(t *testing.T) {
	mine := bound(3, 2, 5, 9)
	for _, r := range []api.Row{
		bound(3, 1, 4, 9), bound(3, 1, 6, 9), bound(3, 1, 1<<32, 9), bound(3, 1, 5|1<<31, 9),
		bound(4, 1, 5, 9), bound(5, 1, 3, 9), bound(0, 1, 5, 9), bound(31, 1, 5, 9),
		bound(3, 2, 5, 9), bound(3, 0, 5, 9), bound(3, 15, 5, 9), gone(3, 5, 9),
		moving(3, 2, 1, 5, 9), moving(3, 0, 1, 5, 9), moved(3, 2, 1, 5, 9), moved(3, 0, 1, 5, 9), moved(3, 0, 2, 5, 9),
	} {
		w := made(t, 1, 2)
		believes(t, w, 1, r)
		believes(t, w, 2, mine)
		once(t, w)
		fine(t, w, true)
		w = made(t, 1, 2)
		believes(t, w, 1, mirrored(mine))
		believes(t, w, 2, mirrored(r))
		once(t, w)
		fine(t, w, true)
	}
}

// TestTwiceOfOne: P21.1: a row that all have is its owner's alone, also where all were told that they own it, each another generation.
func TestTwiceOfOne(t *testing.T) {
	w := made(t, all()...)
	for n := range 16 {
		believes(t, w, n, bound(3, 7, 5, 9))
	}
	once(t, w)
	for n := range 16 {
		believes(t, w, n, bound(3, n, 10+n, 10))
		once(t, w)
	}
	fine(t, w, true)
}

// TestTwiceWhileUp: P21.1: who is down has nothing, neither the one that is told nor the other; and has nothing when it is started again, till it is told it.
func TestTwiceWhileUp(t *testing.T) {
	for _, who := range []int{1, 2} {
		w := made(t, 0, 1, 2, 3)
		believes(t, w, 1, bound(3, 1, 5, 9))
		believes(t, w, 2, bound(3, 2, 5, 10))
		both(t, w, bound(3, 2, 5, 10))
		crashes(t, w, nobody)
		both(t, w, bound(3, 2, 5, 10))
		crashes(t, w, who)
		once(t, w)
		fine(t, w, true)
		starts(t, w, who)
		once(t, w)
		believes(t, w, who, bound(3, who, 5, 11))
		want := bound(3, 2, 5, 10)
		if who == 2 {
			want.Ver = 11
		}
		both(t, w, want)
		crashes(t, w, 1, 2)
		once(t, w)
		fine(t, w, true)
	}
}

// TestTwiceOfThree: P21.1: of several that own one the first behind the least is told, and when one is down, the first of the others.
func TestTwiceOfThree(t *testing.T) {
	w := made(t, 4, 7, 9, 15)
	for _, n := range []int{9, 15, 4, 7} {
		believes(t, w, n, bound(3, n, 5, 100-n))
	}
	both(t, w, bound(3, 7, 5, 93))
	crashes(t, w, 7)
	both(t, w, bound(3, 9, 5, 91))
	crashes(t, w, 4)
	both(t, w, bound(3, 15, 5, 85))
	crashes(t, w, 15)
	once(t, w)
}

// TestTwiceByPorts: P21.1: the row of the least port is told, whichever chassis have it, and whoever heard of it first.
func TestTwiceByPorts(t *testing.T) {
	w := made(t, 0, 1, 14, 15)
	for i, port := range []int{31, 12, 20, 0} {
		lesser, greater := 0, 1
		if i%2 == 1 {
			lesser, greater = 14, 15
		}
		believes(t, w, lesser, bound(port, lesser, 5, 9))
		believes(t, w, greater, bound(port, greater, 5, 8))
		both(t, w, []api.Row{bound(31, 1, 5, 8), bound(12, 15, 5, 8), bound(12, 15, 5, 8), bound(0, 15, 5, 8)}[i])
	}
	believes(t, w, 14, bound(0, 0, 5, 10))
	both(t, w, bound(12, 15, 5, 8))
	crashes(t, w, 14)
	both(t, w, bound(20, 1, 5, 8))
	believes(t, w, 0, bound(20, 0, 6, 10))
	both(t, w, bound(31, 1, 5, 8))
}

// TestTwiceByChassis: P21.1: of one port's the row of the first chassis that isn't the first to own its generation is told, whichever generation that is.
func TestTwiceByChassis(t *testing.T) {
	for mask := range 1 << 6 {
		w := made(t, 0, 1, 2, 3, 4, 5)
		var want api.Row
		seen := map[int]bool{}
		for n := range 6 {
			gen := 5 + mask>>n&1
			r := bound(3, n, gen, 50-n)
			if believes(t, w, n, r); seen[gen] && want.Ver == 0 {
				want = r
			}
			seen[gen] = true
		}
		both(t, w, want)
	}
}

// TestTwiceOfAny: P21.1: any rows at any agents, held against what is told anew.
func TestTwiceOfAny(t *testing.T) {
	seen := map[bool]int{}
	for round := range 400 {
		c := chance(round)
		w := made(t, all()[:2+c.below(15)]...)
		for i := range 2 + c.below(40) {
			n := c.below(16)
			if w.Agent(n) == nil {
				continue
			}
			r := bound(c.below(32), one(&c, n, n, c.below(16)), 1+c.below(3), 1+i)
			if other := (r.Owner + 1) % 16; i%3 == 0 {
				r = one(&c, moving(r.Port, r.Owner, other, r.Gen, r.Ver), moved(r.Port, r.Owner, other, r.Gen, r.Ver), gone(r.Port, r.Gen, r.Ver))
			}
			believes(t, w, n, r)
			want, there := plainTwice(w)
			twice(t, w, want, there)
			seen[there]++
		}
	}
	if seen[false] < 1000 || seen[true] < 500 {
		t.Errorf("too few: %v", seen)
	}
}
