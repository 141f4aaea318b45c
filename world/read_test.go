package world_test

import (
	"testing"

	"rutter/api"
	"rutter/world"
)

// TestCtl: P19.1: the controller, the same one as long as it is up, and none while it is down.
func TestCtl(t *testing.T) {
	w := town(t)
	c := w.Ctl()
	does(t, w, adds(9))
	ticks(t, w, 1)
	steps(t, w, nobody)
	if w.Ctl() != c || c.Chassis()[4] != 9 {
		t.Errorf("another one: %v", c.Chassis())
	}
	crashes(t, w, nobody)
	if w.Ctl() != nil {
		t.Error("it is down")
	}
	starts(t, w, nobody)
	if w.Ctl() == c || w.Ctl().Boot() != 2 || c.Boot() != 1 {
		t.Errorf("boot %d, then %d", c.Boot(), w.Ctl().Boot())
	}
	halts(t, w, adds(1), 0, api.ErrTwice)
}

// TestAgent: P19.1: a chassis' agent, the same one as long as it is up; none while it is down, and of what is no chassis.
func TestAgent(t *testing.T) {
	w := town(t)
	for n := range 4 {
		a := w.Agent(n)
		sends(t, w, n, plainFrame(mac(3)))
		if a == nil || w.Agent(n) != a || w.Agent((n+1)%4) == a {
			t.Errorf("another one of %d", n)
		}
		crashes(t, w, n)
		if w.Agent(n) != nil {
			t.Errorf("%d is down", n)
		}
		starts(t, w, n)
		if w.Agent(n) == a {
			t.Errorf("%d was started anew", n)
		}
	}
	for n := 4; n < 16; n++ {
		if w.Agent(n) != nil {
			t.Errorf("%d was never up", n)
		}
	}
	for _, n := range wrongChassis() {
		if w.Agent(n) != nil {
			t.Errorf("an agent of %d", n)
		}
	}
}

// TestReads: P19.1: what is told of the net and of the time is so whoever is up, or down.
func TestReads(t *testing.T) {
	w := busy(t)
	was, l, n := ofNet(w), w.Events(), w.Len()
	for _, who := range []int{nobody, 0, 1, 3, 15} {
		crashes(t, w, who)
	}
	happened(t, w, l...)
	if got := ofNet(w); got != was || w.Now() != noon || w.Len() != n || n < 10 {
		t.Errorf("%s; was %s", got, was)
	}
	ticks(t, w, 4)
	comes(t, w, 0)
	w.Drop(0)
	w.Double(0)
	if w.Now() != noon+4 || w.Len() != n-1 || w.Lost() != 0 {
		t.Errorf("now %d, %d under way, %d lost", w.Now(), w.Len(), w.Lost())
	}
}

// TestNil: P19.1, P1: of a nil world ErrArg, 0, nil, nothing, whatever it is asked.
func TestNil(t *testing.T) {
	var w *world.World
	errors := map[string]func(n int) api.Errno{
		"API": func(n int) api.Errno {
			r, e := w.API(adds(n))
			if r != (api.Row{}) {
				t.Errorf("API: %+v", r)
			}
			return e
		},
		"Break":   func(n int) api.Errno { return w.Break(adds(n), n) },
		"Tick":    w.Tick,
		"Start":   w.Start,
		"Crash":   w.Crash,
		"Step":    w.Step,
		"Deliver": w.Deliver,
		"Drop":    w.Drop,
		"Double":  w.Double,
		"Inject":  func(n int) api.Errno { return noID(t, w, n, plainFrame(mac(3))) },
		"At": func(n int) api.Errno {
			x, e := w.At(n)
			if x.Kind != 0 || x.Chassis != 0 || len(x.Bytes) != 0 {
				t.Errorf("At: %v", x)
			}
			return e
		},
	}
	for _, n := range append(wrongTicks(), -1, 0, 1, 15, 16, last) {
		for name, do := range errors {
			if e := do(n); e != api.ErrArg {
				t.Errorf("%s(%d): %d", name, n, e)
			}
		}
		if w.Agent(n) != nil {
			t.Errorf("Agent(%d)", n)
		}
	}
	if w.Ctl() != nil || w.Now() != 0 || w.Len() != 0 || w.Lost() != 0 || len(w.Events()) != 0 {
		t.Error("something is told of a nil world")
	}
}
