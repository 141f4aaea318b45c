package bind_test

import (
	"slices"
	"testing"

	"rutter/api"
	"rutter/bind"
	"rutter/flow"
)

// spoil writes into all that a list's memory has.
func spoil[T any](l []T, with T) {
	l = l[:cap(l)]
	for i := range l {
		l[i] = with
	}
}

// louder is an entry that would be looked up ahead of the others.
func louder() flow.Entry {
	return flow.Entry{Prio: 1000, Ins: 7, MAC: own, Port: 3, Upto: 9, Not: -9, Action: flow.Action{Kind: 2, Port: 31, To: 15, Gen: 1}}
}

// TestCompileIsNew: rule 4: who writes into what Compile told turns nothing of another answer, nor of a table.
func TestCompileIsNew(t *testing.T) {
	for n := range len(some()) + 1 {
		for _, chassis := range []int{-1, 0, 1, 9, 15} {
			l := some()[:n]
			a, b, s := bind.Compile(chassis, l...), bind.Compile(chassis, l...), made(t, chassis, l...)
			was := slices.Clone(b)
			spoil(a, louder())
			_ = append(a, louder())
			spoil(s.Entries(), louder())
			if !slices.Equal(b, was) || !slices.Equal(bind.Compile(chassis, l...), was) || !slices.Equal(s.Entries(), was) {
				t.Errorf("%d at %d: %+v; want %+v", n, chassis, b, was)
			}
			right(t, chassis, l, someKeys()[:20]...)
		}
	}
}

// TestKeepsNothing: rule 4: rows that were handed in are neither written into nor kept, nor what lies behind them.
func TestKeepsNothing(t *testing.T) {
	keys := someKeys()
	for n := range len(some()) + 1 {
		for _, chassis := range []int{0, 1, 9, 15} {
			room := some()
			a, s := bind.Compile(chassis, room[:n]...), made(t, chassis, room[:n]...)
			if !slices.Equal(room, some()) {
				t.Errorf("written into: %+v", room)
			}
			was := slices.Clone(a)
			spoil(room, row(api.Bound, owner(chassis)))
			if !slices.Equal(a, was) || !slices.Equal(s.Entries(), was) {
				t.Errorf("kept: %+v; was %+v", a, was)
			}
			for i := 0; i < len(keys); i += 31 {
				want, _ := plainTells(some()[:n], chassis, keys[i])
				tells(t, s, keys[i], want)
			}
			if !slices.Equal(room, slices.Repeat([]api.Row{row(api.Bound, owner(chassis))}, len(room))) {
				t.Errorf("written into: %+v", room)
			}
		}
	}
}

// TestKeepsNothingBesideError: rule 4: nor where the entries are too many.
func TestKeepsNothingBesideError(t *testing.T) {
	l := slices.Repeat([]api.Row{row(api.Moved)}, 300)
	if s, e := bind.Table(7, l...); s != nil || e != api.ErrFull {
		t.Errorf("%v, %d", s, e)
	}
	if !slices.Equal(l, slices.Repeat([]api.Row{row(api.Moved)}, 300)) {
		t.Errorf("%+v", l)
	}
}

// TestTablesAreApart: P2: a table is another one than those of the same rows, at the same chassis and at others.
func TestTablesAreApart(t *testing.T) {
	l := some()
	a, b, c := made(t, 0, l...), made(t, 0, l...), made(t, 15, l...)
	if a == b {
		t.Error("one table")
	}
	made(t, 0, row(api.Bound, mac(11), port(31)))
	bind.Table(0, slices.Repeat(l, 100)...)
	for _, k := range someKeys()[:200] {
		want, _ := plainTells(l, 0, k)
		tells(t, a, k, want)
		tells(t, b, k, want)
		want, _ = plainTells(l, 15, k)
		tells(t, c, k, want)
	}
}
