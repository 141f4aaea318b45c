package flow_test

import (
	"math"
	"slices"
	"testing"

	"rutter/api"
	"rutter/flow"
)

// TestMost: P13.1: the number of entries that there may be.
func TestMost(t *testing.T) {
	if flow.Most != 256 {
		t.Errorf("%d", flow.Most)
	}
}

// TestNew: P13.1: a table with these entries, in order; ErrFull, and none, if they are too many.
func TestNew(t *testing.T) {
	for _, n := range []int{0, 1, 2, 3, 100, 255, 256} {
		l := numbered(n)
		has(t, made(t, l...), l, key(0), key(1), key(2), key(3), key(0, keyMAC(1)))
	}
	for _, n := range []int{257, 258, 511, 512, 513, 1000, 1 << 16, 1<<16 + 1} {
		if s, e := flow.New(make([]flow.Entry, n)...); s != nil || e != api.ErrFull {
			t.Errorf("New of %d: %v, %d", n, s, e)
		}
		if s, e := flow.New(numbered(n)...); s != nil || e != api.ErrFull {
			t.Errorf("New of %d: %v, %d", n, s, e)
		}
	}
	s, e := flow.New()
	if s == nil || e != api.OK || len(s.Entries()) != 0 {
		t.Errorf("New of none: %v, %d", s, e)
	}
}

// TestNewOfAlike: P13.1: entries alike are as many as they are.
func TestNewOfAlike(t *testing.T) {
	for _, n := range []int{2, 3, 255, 256} {
		l := slices.Repeat([]flow.Entry{entry()}, n)
		has(t, made(t, l...), l, key(0), key(2))
		l = make([]flow.Entry, n)
		has(t, made(t, l...), l, key(0), flow.Key{}, flow.Key{Origin: -1})
	}
	if s, e := flow.New(slices.Repeat([]flow.Entry{entry()}, 257)...); s != nil || e != api.ErrFull {
		t.Errorf("%v, %d", s, e)
	}
	l := []flow.Entry{entry(), entry(prio(6)), entry(), entry(prio(6)), entry()}
	has(t, made(t, l...), l, key(0))
}

// TestNewOfAny: P13.1: entries of any numbers are kept as they are, also such as fit no key.
func TestNewOfAny(t *testing.T) {
	var l []flow.Entry
	for _, n := range edges() {
		l = append(l, entry(prio(n)), entry(ins(n)), entry(mac(uint64(n))), entry(port(n)), entry(stamps(n, -n)), entry(not(n)), entry(does(n, n, n)))
		l = append(l, flow.Entry{Prio: n, Ins: n, MAC: uint64(n), Port: n, From: n, Upto: n, Not: n, Action: flow.Action{Kind: n, Port: n, To: n, Gen: n}})
	}
	has(t, made(t, l...), l, key(0), key(1), key(2))
}

// TestLookOfNone: P13.1: false, and the action 0, in an empty table, and in one where none fits.
func TestLookOfNone(t *testing.T) {
	for _, l := range [][]flow.Entry{{}, numbered(1, ins(0)), numbered(256, not(0)), numbered(256, port(4), mac(4)), numbered(3, stamps(4, 9)), numbered(3, stamps(3, 2))} {
		s := made(t, l...)
		for in := -1; in <= 3; in++ {
			looks(t, s, key(in))
		}
	}
	s := made(t, numbered(256, ins(-1))...)
	for _, in := range []int{math.MinInt, -1, 3, 63, 64, math.MaxInt} {
		looks(t, s, key(in))
	}
}

// TestLookOfOne: P13.1: one that fits, wherever it stands among others, and of whatever PRIO, also where the others have a greater one.
func TestLookOfOne(t *testing.T) {
	for _, n := range []int{1, 2, 3, 10, 256} {
		for _, at := range []int{0, 1, n / 2, n - 2, n - 1} {
			if at < 0 || at >= n {
				continue
			}
			for _, p := range edges() {
				l := numbered(n, port(4), prio(0))
				l[at] = entry(prio(p), does(1, 7, 8))
				for i := 1; i < n; i += 3 {
					if i != at {
						l[i].Prio = math.MaxInt
					}
				}
				s := made(t, l...)
				looks(t, s, key(1), l[at])
				looks(t, s, key(2), l[at])
			}
		}
	}
}

// TestLookByPrio: P13.1: of those that fit the one of the greatest PRIO, where PRIOs rise, fall, are alike, or below 0.
func TestLookByPrio(t *testing.T) {
	for _, x := range []struct {
		prios []int
		want  int
	}{
		{[]int{1, 2, 3}, 2}, {[]int{3, 2, 1}, 0}, {[]int{1, 3, 2}, 1}, {[]int{2, 3, 1}, 1}, {[]int{5, 5, 5}, 0}, {[]int{0, 0}, 0},
		{[]int{1, 5, 5}, 1}, {[]int{5, 1, 5}, 0}, {[]int{5, 5, 6}, 2}, {[]int{5, 6, 6, 5, 6}, 1},
		{[]int{-3, -2, -1}, 2}, {[]int{-1, -2, -3}, 0}, {[]int{-1, -1}, 0}, {[]int{-1}, 0}, {[]int{-1, 0}, 1}, {[]int{0, -1}, 0}, {[]int{-2, 0, 2}, 2}, {[]int{-5, 3, -5}, 1},
		{[]int{math.MinInt}, 0}, {[]int{math.MinInt, math.MinInt}, 0}, {[]int{math.MinInt, math.MinInt + 1}, 1}, {[]int{math.MinInt, math.MaxInt}, 1}, {[]int{math.MaxInt, math.MinInt}, 0},
		{[]int{math.MinInt, 1}, 1}, {[]int{1, math.MinInt}, 0}, {[]int{-1, math.MaxInt}, 1}, {[]int{math.MaxInt, -1}, 0}, {[]int{math.MaxInt, math.MaxInt}, 0}, {[]int{math.MaxInt - 1, math.MaxInt}, 1},
		{[]int{1 << 32, 1}, 0}, {[]int{1, 1 << 32}, 1}, {[]int{1<<31 - 1, 1 << 31}, 1},
	} {
		l := numbered(len(x.prios))
		for i, p := range x.prios {
			l[i].Prio = p
		}
		for in := range 3 {
			looks(t, made(t, l...), key(in), l[x.want])
		}
	}
	for _, a := range edges() {
		for _, b := range edges() {
			l := numbered(2)
			l[0].Prio, l[1].Prio = a, b
			want := l[0]
			if b > a {
				want = l[1]
			}
			looks(t, made(t, l...), key(0), want)
		}
	}
}

// TestLookAmongOthers: P13.1: those that don't fit are nothing to it, whatever their PRIO, ahead of it and behind it.
func TestLookAmongOthers(t *testing.T) {
	others := []flow.Entry{entry(ins(6), mac(1)), entry(mac(4)), entry(stamps(4, 9)), entry(stamps(1, 2)), entry(not(0)), entry(ins(0))}
	for _, p := range edges() {
		for _, o := range others {
			o.Prio, o.Action = p, flow.Action{Kind: 2, Port: 31, To: 15, Gen: 1}
			a, b := entry(does(1, 1, 1)), entry(does(1, 2, 2), prio(4))
			for _, l := range [][]flow.Entry{{o, a}, {a, o}, {o, a, b}, {a, o, b}, {b, o, a}, {o, b, o, a, o}} {
				looks(t, made(t, l...), key(0), a)
			}
			looks(t, made(t, o, b), key(0), b)
			looks(t, made(t, o), key(0))
		}
	}
}

// TestLookLast: P13.1: of 256 the last one counts, too.
func TestLookLast(t *testing.T) {
	for _, n := range []int{255, 256} {
		l := numbered(n)
		looks(t, made(t, l...), key(1), l[0])
		l[n-1].Prio++
		looks(t, made(t, l...), key(1), l[n-1])
		for i := range l {
			l[i].Prio = i
		}
		looks(t, made(t, l...), key(1), l[n-1])
		for i := range l {
			l[i].Prio = -i
		}
		looks(t, made(t, l...), key(1), l[0])
	}
}

// TestLookOfNoughts: P13.1: an action of all noughts is told, beside true; where there is none, beside false.
func TestLookOfNoughts(t *testing.T) {
	drop := entry(does(0, 0, 0))
	if drop.Action != (flow.Action{}) {
		t.Fatalf("%+v", drop)
	}
	for _, l := range [][]flow.Entry{{drop}, {drop, entry()}, {entry(prio(4)), drop}, {entry(prio(9), port(5)), drop, entry(prio(-1))}} {
		if a, ok := made(t, l...).Look(key(1)); a != (flow.Action{}) || !ok {
			t.Errorf("%+v, %t", a, ok)
		}
		if a, ok := made(t, l...).Look(key(1, keyPort(6))); a != (flow.Action{}) || ok {
			t.Errorf("%+v, %t", a, ok)
		}
	}
}

// TestLookOfAnyAction: P13.1: an action is told as it is, of a kind and of numbers that are none, too.
func TestLookOfAnyAction(t *testing.T) {
	for _, k := range edges() {
		for _, n := range edges() {
			e := entry(does(k, n, -n), not(5))
			looks(t, made(t, e), key(0), e)
		}
	}
	e := entry()
	e.Action = flow.Action{Kind: 1, Port: 2, To: 3, Gen: 4}
	looks(t, made(t, e), key(2), e)
}

// TestLookEachKey: P13.1: what a table tells of each key of many, held against a plain one.
func TestLookEachKey(t *testing.T) {
	l := fewEntries()[:256]
	for i := range l {
		l[i].Prio, l[i].Action = i*7%5-2, flow.Action{Kind: i % 3, Port: i}
	}
	for n := 0; n <= 256; n += 16 {
		has(t, made(t, l[:n]...), l[:n], fewKeys()...)
		has(t, made(t, l[256-n:]...), l[256-n:], fewKeys()...)
	}
}

// TestEntries: P13.1: all, in the order in which they came, of whatever PRIO; those alike, too.
func TestEntries(t *testing.T) {
	for _, n := range []int{0, 1, 2, 17, 256} {
		l := numbered(n)
		for i := range l {
			l[i].Prio = []int{5, -1, 7, 5, math.MinInt, math.MaxInt, 0}[i%7]
		}
		has(t, made(t, l...), l)
		slices.Reverse(l)
		has(t, made(t, l...), l)
	}
}

// TestReadersTurnNothing: P13.1: Look, Entries and Fits turn nothing, however often they are asked.
func TestReadersTurnNothing(t *testing.T) {
	l := append(numbered(3), entry(prio(9), port(4)), entry(prio(7), ins(1)), entry(prio(7), ins(3)))
	s := made(t, l...)
	for range 20 {
		for _, k := range []flow.Key{key(0), key(1), key(2), key(3), key(1, keyPort(4)), key(2, origin(9)), {}} {
			has(t, s, l, k)
			fits(t, l[3], k, plainFits(l[3], k))
			has(t, s, l, key(0), key(1), key(2))
		}
	}
}

// TestNil: P13.1, P1: on a nil table false, nothing.
func TestNil(t *testing.T) {
	var s *flow.Table
	for in := -1; in <= 3; in++ {
		looks(t, s, key(in))
	}
	looks(t, s, flow.Key{})
	if l := s.Entries(); len(l) != 0 {
		t.Errorf("%+v", l)
	}
}

// TestAWay: P13.1, P13.2: a table, as README.md tells it.
func TestAWay(t *testing.T) {
	here := flow.Entry{Prio: 2, Ins: 6, Port: 3, From: 1, Upto: 5, Not: -1, Action: flow.Action{Kind: 1, Port: 3}}
	on := flow.Entry{Prio: 1, Ins: 3, MAC: 1<<41 + 3, Port: 3, From: 0, Upto: 1 << 32, Not: 2, Action: flow.Action{Kind: 2, Port: 3, To: 2, Gen: 6}}
	s := made(t, on, here)
	looks(t, s, flow.Key{MAC: 1<<41 + 3, Origin: -1}, on)
	looks(t, s, flow.Key{In: 1, Port: 3, Stamp: 5, Origin: 2}, here)
	looks(t, s, flow.Key{In: 1, Port: 3, Stamp: 6, Origin: 1}, on)
	looks(t, s, flow.Key{In: 1, Port: 3, Stamp: 6, Origin: 2})
	looks(t, s, flow.Key{In: 2, Port: 3, Stamp: 6, Origin: 1})
	fits(t, here, flow.Key{In: 2, Port: 3, Stamp: 1}, true)
	has(t, s, []flow.Entry{on, here})
	if s, e := flow.New(make([]flow.Entry, 257)...); s != nil || e != api.ErrFull {
		t.Errorf("%v, %d", s, e)
	}
}
