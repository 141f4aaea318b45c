package flow_test

import (
	"math"
	"slices"
	"testing"

	"rutter/api"
	"rutter/flow"
)

// of makes an entry.
type of func(e *flow.Entry)

func prio(n int) of      { return func(e *flow.Entry) { e.Prio = n } }
func ins(n int) of       { return func(e *flow.Entry) { e.Ins = n } }
func mac(n uint64) of    { return func(e *flow.Entry) { e.MAC = n } }
func port(n int) of      { return func(e *flow.Entry) { e.Port = n } }
func stamps(a, b int) of { return func(e *flow.Entry) { e.From, e.Upto = a, b } }
func not(n int) of       { return func(e *flow.Entry) { e.Not = n } }
func does(k, p, n int) of {
	return func(e *flow.Entry) { e.Action = flow.Action{Kind: k, Port: p, To: n, Gen: 10 * n} }
}

// entry is one that is for every IN, with that changed.
func entry(l ...of) flow.Entry {
	e := flow.Entry{Prio: 5, Ins: 7, MAC: 1<<41 + 3, Port: 3, From: 2, Upto: 4, Not: 9, Action: flow.Action{Kind: 2, Port: 3, To: 11, Gen: 4}}
	for _, change := range l {
		change(&e)
	}
	return e
}

// turn turns something of a key.
type turn func(k *flow.Key)

func keyMAC(n uint64) turn { return func(k *flow.Key) { k.MAC = n } }
func keyPort(n int) turn   { return func(k *flow.Key) { k.Port = n } }
func stamp(n int) turn     { return func(k *flow.Key) { k.Stamp = n } }
func origin(n int) turn    { return func(k *flow.Key) { k.Origin = n } }

// key is one of an IN that the entry fits, with that changed.
func key(in int, l ...turn) flow.Key {
	k := flow.Key{In: in, MAC: 1<<41 + 3, Port: 3, Stamp: 3, Origin: 0}
	for _, change := range l {
		change(&k)
	}
	return k
}

// numbered are entries alike, but for what they do, which differs.
func numbered(n int, l ...of) []flow.Entry {
	all := make([]flow.Entry, n)
	for i := range all {
		all[i] = entry(append(slices.Clone(l), does(i%3, i, 1000+i))...)
	}
	return all
}

// lowest is a number's lowest three bits, as a number, told anew, without bits.
func lowest(n int) int { return (n%8 + 8) % 8 }

// plainFits tells, anew, whether an entry fits a key.
func plainFits(e flow.Entry, k flow.Key) bool {
	var named bool
	switch k.In {
	case 0:
		named = slices.Contains([]int{1, 3, 5, 7}, lowest(e.Ins)) && e.MAC == k.MAC
	case 1:
		named = slices.Contains([]int{2, 3, 6, 7}, lowest(e.Ins)) && e.Port == k.Port
	case 2:
		named = lowest(e.Ins) >= 4 && e.Port == k.Port
	}
	early, late := k.Stamp < e.From, k.Stamp > e.Upto
	return named && !early && !late && k.Origin != e.Not
}

// plainLook tells, anew, the place of the entry whose action it is, or -1: no other that fits is of a greater PRIO, none ahead of it of the same.
func plainLook(l []flow.Entry, k flow.Key) int {
	for i, e := range l {
		beaten := !plainFits(e, k)
		for j, other := range l {
			if plainFits(other, k) && (other.Prio > e.Prio || other.Prio == e.Prio && j < i) {
				beaten = true
			}
		}
		if !beaten {
			return i
		}
	}
	return -1
}

// made is a table of these entries.
func made(t *testing.T, l ...flow.Entry) *flow.Table {
	t.Helper()
	s, e := flow.New(l...)
	if s == nil || e != api.OK {
		t.Fatalf("New of %d: %v, %d", len(l), s, e)
	}
	return s
}

// fits checks what Fits answers.
func fits(t *testing.T, e flow.Entry, k flow.Key, want bool) {
	t.Helper()
	if got := flow.Fits(e, k); got != want {
		t.Errorf("%+v and %+v: %t; want %t", e, k, got, want)
	}
}

// looks checks what Look answers: the action of one of these entries, or of none.
func looks(t *testing.T, s *flow.Table, k flow.Key, l ...flow.Entry) {
	t.Helper()
	var want flow.Action
	for _, e := range l {
		want = e.Action
	}
	if a, ok := s.Look(k); a != want || ok != (len(l) == 1) {
		t.Errorf("%+v: %+v, %t; want %+v, %t", k, a, ok, want, len(l) == 1)
	}
}

// has checks which entries a table has, and what it answers for these keys.
func has(t *testing.T, s *flow.Table, l []flow.Entry, keys ...flow.Key) {
	t.Helper()
	if got := s.Entries(); !slices.Equal(got, l) {
		t.Errorf("%+v; want %+v", got, l)
	}
	for _, k := range keys {
		if i := plainLook(l, k); i < 0 {
			looks(t, s, k)
		} else {
			looks(t, s, k, l[i])
		}
	}
}

// edges are numbers, ordinary ones, and the least and the greatest.
func edges() []int {
	return []int{math.MinInt, math.MinInt + 1, -1 << 32, -256, -3, -2, -1, 0, 1, 2, 3, 4, 255, 256, 1<<32 - 1, 1 << 32, math.MaxInt - 1, math.MaxInt}
}

// macs are addresses, ordinary ones, and the least and the greatest, and numbers above them.
func macs() []uint64 {
	return []uint64{0, 1, 2, 1 << 32, 1<<41 + 3, 1<<41 + 4, 1<<48 - 2, 1<<48 - 1, 1 << 48, 1<<48 + 1, 1 << 63, math.MaxUint64 - 1, math.MaxUint64}
}
