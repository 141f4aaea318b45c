package tail_test

import (
	"testing"

	"rutter/api"
	"rutter/tail"
	"rutter/world"
)

// bits are the places of those that are set.
func bits(mask int) []int {
	var l []int
	for n := range 16 {
		if mask>>n&1 == 1 {
			l = append(l, n)
		}
	}
	return l
}

// TestBegin: P22.1: the controller up and down, and of chassis 0 to 3 any members, of which any were up once, and any are: who is down is started then, if it is a member, and who is up stays.
func TestBegin(t *testing.T) {
	for mask := range 1 << 10 {
		members, up, down := mask&15, mask>>4&15, mask>>8&1 == 1
		w := made(t, span, bits(members)...)
		starts(t, w, 0, 1, 2, 3)
		if mask>>9 == 1 {
			steps(t, w, 0, 1, 2, 3)
		}
		crashes(t, w, bits(up^15)...)
		if down {
			crashes(t, w, nobody)
		}
		under, c := w.Len(), w.Ctl()
		begins(t, w)
		if w.Ctl() == nil || (w.Ctl() != c) != down || w.Len() != under || w.Now() != 0 || len(w.Events()) != 0 {
			t.Fatalf("%010b: %s", mask, look(w))
		}
		for n := range 16 {
			a := w.Agent(n)
			if want := (members|up)>>n&1 == 1; (a != nil) != want {
				t.Fatalf("%010b: %d is up: %v; want %v", mask, n, a != nil, want)
			}
			if a == nil {
				continue
			}
			if got, want := boot(t, a), 2-up>>n&1; got != want {
				t.Fatalf("%010b: %d was started %d times; want %d", mask, n, got, want)
			}
		}
		was := look(w)
		begins(t, w)
		stays(t, w, was)
	}
}

// TestBeginOfNone: P22.1: a new world, up and down, in which there is no member.
func TestBeginOfNone(t *testing.T) {
	w := made(t, span)
	was := look(w)
	begins(t, w)
	stays(t, w, was)
	crashes(t, w, nobody)
	begins(t, w)
	if w.Ctl() == nil || w.Ctl().Boot() != 2 {
		t.Error(look(w))
	}
	for n := range 16 {
		if w.Agent(n) != nil {
			t.Errorf("%d is up", n)
		}
	}
}

// TestBeginOfAll: P22.1: the least and the greatest chassis, and all, are started.
func TestBeginOfAll(t *testing.T) {
	for _, l := range [][]int{{0}, {15}, {0, 15}, bits(1<<16 - 1)} {
		w := made(t, span, l...)
		crashes(t, w, nobody)
		begins(t, w)
		for _, n := range l {
			if w.Agent(n) == nil {
				t.Errorf("of %d: %d is down", l, n)
			}
		}
	}
}

// TestBeginAfterBreak: P22.1: the members are those that the controller has when it is up again: behind a call that was broken, one that was to come is one, if its record was kept.
func TestBeginAfterBreak(t *testing.T) {
	for keep := range 10 {
		w := made(t, span, 1)
		ok(t, w.Break(asks(api.AddChassis, 0, 2), keep))
		begins(t, w)
		if w.Ctl() == nil || w.Agent(1) == nil || (w.Agent(2) != nil) != (keep >= 8) {
			t.Errorf("%d bytes kept: %s", keep, look(w))
		}
	}
}

// TestBeginKeepsTime: P22.1: a controller that is started lets what is late become so, now, and no time passes.
func TestBeginKeepsTime(t *testing.T) {
	w := town(t)
	does(t, w, asks(api.Start, 3, 2))
	crashes(t, w, nobody, 2)
	ok(t, w.Tick(span))
	begins(t, w)
	if r := row(w, 3); r.Phase != api.Bound || r.Owner != 1 || r.Ver != 3 || r.Since != span || w.Now() != span {
		t.Errorf("at %d: %+v", w.Now(), r)
	}
}

// crammed is a world with members 1 and 2, whose file has no room for a boot, nor for anything else.
func crammed(t testing.TB) *world.World {
	t.Helper()
	w := made(t, span, 1, 2)
	does(t, w, asks(api.AddPort, 3, 1))
	for _, l := range [][]api.Call{{asks(api.Start, 3, 2), asks(api.Abort, 3, 0)}, {asks(api.AddChassis, 0, 9), asks(api.RemoveChassis, 0, 9)}} {
		e := api.OK
		for i := 0; e == api.OK; i++ {
			_, e = w.API(l[i%2])
		}
		has(t, e, api.ErrFull)
	}
	return w
}

// TestBeginFails: P22.1: the controller's error, where its file has no room for one boot more: then nothing is done, whoever is down; Run tells it, too, with 0.
func TestBeginFails(t *testing.T) {
	w := crammed(t)
	starts(t, w, 2)
	steps(t, w, nobody, 2)
	crashes(t, w, nobody)
	was := look(w)
	for range 2 {
		has(t, tail.Begin(w), api.ErrFull)
		stays(t, w, was)
		runs(t, w, 5, 0, 0, api.ErrFull)
		stays(t, w, was)
	}
	if w.Ctl() != nil || w.Agent(1) != nil || w.Agent(2) == nil {
		t.Error(look(w))
	}
}

// TestBeginWhileFull: P22.1: a controller that is up needs no more room: the members are started.
func TestBeginWhileFull(t *testing.T) {
	w := crammed(t)
	begins(t, w)
	if w.Agent(1) == nil || w.Agent(2) == nil {
		t.Error(look(w))
	}
}

// TestBeginOfNil: P22.1: there is no world.
func TestBeginOfNil(t *testing.T) {
	has(t, tail.Begin(nil), api.ErrArg)
}
