package world_test

import (
	"slices"
	"strconv"
	"testing"

	"rutter/api"
	"rutter/net"
	"rutter/session"
	"rutter/world"
)

// letters are so many bodies that an agent has to tell.
func letters(t testing.TB, w *world.World, chassis, n int) {
	t.Helper()
	for i := range n {
		if e := w.Agent(chassis).Push([]byte("body " + strconv.Itoa(i))); e != api.OK {
			t.Fatalf("Push: %d", e)
		}
	}
}

// TestStepAgent: P19.1: an agent's letters that go are in the net, up from its chassis, in order, behind what is there: one without a body, where it has none, else up to so many as a window has.
func TestStepAgent(t *testing.T) {
	for _, chassis := range []int{0, 1, 7, 15} {
		for _, n := range []int{0, 1, 2, 7, 8, 9, 64} {
			w := town(t)
			if !isUp(w, chassis) {
				starts(t, w, chassis)
			}
			letters(t, w, chassis, n)
			want := of(up, chassis, w.Agent(chassis).Out()...)
			if len(want) != min(max(n, 1), session.Window) {
				t.Fatalf("%d letters of %d bodies", len(want), n)
			}
			of := ofWho(w, chassis)
			steps(t, w, chassis)
			carries(t, w, want...)
			steps(t, w, chassis)
			carries(t, w, append(want, want...)...)
			if got := ofWho(w, chassis); got != of || w.Lost() != 0 {
				t.Errorf("Step of %d: %s; was %s", chassis, got, of)
			}
			happened(t, w)
		}
	}
}

// TestStepController: P19.1: the controller's letters that go are in the net, down to each chassis that its store has, rising, of each in order: whether it is up or not, whether it is known or not.
func TestStepController(t *testing.T) {
	w := town(t)
	for _, n := range []int{15, 9, 12} {
		does(t, w, adds(n))
	}
	starts(t, w, 9)
	crashes(t, w, 2)
	for i := range 10 {
		does(t, w, asks(api.AddPort, 10+i, 15))
	}
	var want []net.Item
	for _, n := range []int{0, 1, 2, 3, 9, 12, 15} {
		l := w.Ctl().Out(n)
		if len(l) != 8 && n < 4 || len(l) != 1 && n > 3 {
			t.Fatalf("%d letters to %d", len(l), n)
		}
		want = append(want, of(down, n, l...)...)
	}
	was := ofWho(w, nobody)
	steps(t, w, nobody)
	carries(t, w, want...)
	steps(t, w, nobody)
	carries(t, w, slices.Concat(want, want)...)
	if got := ofWho(w, nobody); got != was {
		t.Errorf("Step: %s; was %s", got, was)
	}
	happened(t, w)
}

// TestStepRemoved: P19.1: nothing goes to a chassis that was removed, until it is added again.
func TestStepRemoved(t *testing.T) {
	w := town(t)
	does(t, w, asks(api.Start, 3, 2))
	for _, n := range []int{0, 3} {
		does(t, w, api.Call{Op: api.RemoveChassis, Chassis: n})
	}
	to := func(l ...int) {
		t.Helper()
		var want []net.Item
		for _, n := range l {
			if len(w.Ctl().Out(n)) == 0 {
				t.Fatalf("no letters to %d", n)
			}
			want = append(want, of(down, n, w.Ctl().Out(n)...)...)
		}
		for w.Len() > 0 {
			w.Drop(0)
		}
		steps(t, w, nobody)
		carries(t, w, want...)
	}
	to(1, 2)
	does(t, w, adds(3))
	to(1, 2, 3)
	does(t, w, adds(0))
	to(0, 1, 2, 3)
}

// TestStepNone: P19.1: a controller whose store has no chassis steps, and nothing goes.
func TestStepNone(t *testing.T) {
	w := made(t, span, life)
	starts(t, w, 0, 1)
	steps(t, w, nobody)
	carries(t, w)
	does(t, w, adds(1))
	steps(t, w, nobody)
	carries(t, w, of(down, 1, w.Ctl().Out(1)...)...)
}

// TestStepDown: P19.1: who is down doesn't step: each.
func TestStepDown(t *testing.T) {
	w := town(t)
	for _, who := range everyone() {
		if isUp(w, who) {
			crashes(t, w, who)
		}
		stays(t, w, "Step", api.ErrDown, func() api.Errno { return w.Step(who) })
	}
	for _, who := range everyone() {
		starts(t, w, who)
		steps(t, w, who)
	}
	if n := w.Len(); n != 4+16 {
		t.Errorf("%d letters", n)
	}
}

// crowded is a town in whose net there is room for so many items more.
func crowded(t testing.TB, room int) *world.World {
	t.Helper()
	w := town(t)
	for w.Len() < api.MaxFrames-room {
		steps(t, w, 3)
	}
	if w.Lost() != 0 {
		t.Fatalf("%d were lost", w.Lost())
	}
	return w
}

// TestStepFull: P19.1: what has no room in the net, which is for so many as there are frames, is lost, and counted; the first ones come in.
func TestStepFull(t *testing.T) {
	for _, room := range []int{0, 1, 5, 7, 8, 9} {
		w := crowded(t, room)
		letters(t, w, 1, 8)
		was, l := items(w), of(up, 1, w.Agent(1).Out()...)
		steps(t, w, 1)
		n := min(room, 8)
		carries(t, w, append(was, l[:n]...)...)
		if w.Lost() != 8-n {
			t.Errorf("%d were lost, with room for %d", w.Lost(), room)
		}
	}
	w := crowded(t, 3)
	was, lost := items(w), 1
	for n := range 3 {
		was = append(was, of(down, n, w.Ctl().Out(n)...)...)
	}
	steps(t, w, nobody)
	carries(t, w, was...)
	if w.Lost() != lost || w.Len() != api.MaxFrames {
		t.Errorf("%d were lost, %d are under way", w.Lost(), w.Len())
	}
	steps(t, w, nobody, 0)
	if w.Lost() != lost+5 {
		t.Errorf("%d were lost", w.Lost())
	}
}
