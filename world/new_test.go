package world_test

import (
	"math"
	"testing"

	"rutter/api"
	"rutter/world"
)

// rightLengths are those of a span, and of a life; wrongLengths are none of these.
func rightLengths() []int { return []int{1, 2, span, 1 << 16, 1<<31 - 1, 1 << 31} }

func wrongLengths() []int {
	return []int{math.MinInt, -1 << 32, -1 << 31, -span, -2, -1, 0, 1<<31 + 1, 1<<31 + 2, 1 << 32, 1<<32 + span, 1 << 40, math.MaxInt}
}

// first checks what is told of a new world.
func first(t *testing.T, w *world.World) {
	t.Helper()
	c := w.Ctl()
	if c == nil || c.Boot() != 1 || len(c.Rows())+len(c.Chassis()) != 0 {
		t.Fatalf("the controller is %v", c)
	}
	for n := -2; n < 18; n++ {
		if w.Agent(n) != nil {
			t.Errorf("the agent at %d is up", n)
		}
	}
	if w.Now() != 0 || w.Len() != 0 || w.Lost() != 0 || len(w.Events()) != 0 {
		t.Errorf("at first: %s", look(w))
	}
}

// TestNew: P19.1: a world of each span and life that may be, at its beginning.
func TestNew(t *testing.T) {
	for _, span := range rightLengths() {
		for _, life := range rightLengths() {
			first(t, made(t, span, life))
		}
	}
}

// TestNewWrong: P19.1: a span, or a life, or both that may not be.
func TestNewWrong(t *testing.T) {
	wrong := func(span, life int) {
		if w, e := world.New(span, life); w != nil || e != api.ErrArg {
			t.Errorf("New(%d, %d): %v, %d", span, life, w, e)
		}
	}
	for _, n := range wrongLengths() {
		for _, m := range rightLengths() {
			wrong(n, m)
			wrong(m, n)
		}
		for _, m := range wrongLengths() {
			wrong(n, m)
		}
	}
}

// TestFirstErrors: P19.1: what a new world answers where nothing is up, or under way.
func TestFirstErrors(t *testing.T) {
	w := made(t, span, life)
	for n := range 16 {
		stays(t, w, "Crash", api.ErrDown, func() api.Errno { return w.Crash(n) })
		stays(t, w, "Step", api.ErrDown, func() api.Errno { return w.Step(n) })
		stays(t, w, "Inject", api.ErrDown, func() api.Errno { _, e := w.Inject(n, plainFrame(1)); return e })
	}
	stays(t, w, "Start", api.ErrTwice, func() api.Errno { return w.Start(nobody) })
	stays(t, w, "Deliver", api.ErrNone, func() api.Errno { return w.Deliver(0) })
	stays(t, w, "Drop", api.ErrNone, func() api.Errno { return w.Drop(0) })
	stays(t, w, "Double", api.ErrNone, func() api.Errno { return w.Double(0) })
	stays(t, w, "At", api.ErrNone, func() api.Errno { _, e := w.At(0); return e })
	steps(t, w, nobody)
	first(t, w)
}

// TestSpan: P19.1: the controller has the world's span, also when it was started again.
func TestSpan(t *testing.T) {
	for _, again := range []bool{false, true} {
		for _, span := range rightLengths() {
			w := made(t, span, 1)
			if again {
				crashes(t, w, nobody)
				starts(t, w, nobody)
			}
			does(t, w, adds(1))
			does(t, w, adds(2))
			does(t, w, asks(api.AddPort, 3, 1))
			ticks(t, w, noon)
			does(t, w, asks(api.Start, 3, 2))
			if span > 1 {
				ticks(t, w, span-1)
			}
			decided(t, w, moving(3, 1, 2, 1, 2))
			ticks(t, w, 1)
			decided(t, w, at(noon+span, bound(3, 1, 1, 3)))
		}
	}
}

// TestLife: P19.1: an agent has the world's life, also when it was started again.
func TestLife(t *testing.T) {
	for _, again := range []bool{false, true} {
		for _, life := range rightLengths() {
			w := made(t, 1, life)
			does(t, w, adds(1))
			starts(t, w, 1)
			if again {
				crashes(t, w, 1)
				starts(t, w, 1)
			}
			does(t, w, asks(api.AddPort, 3, 1))
			rounds(t, w, 2)
			ticks(t, w, noon)
			sends(t, w, 1, talk(t, mac(3), 9))
			if l := w.Agent(1).Records(noon); len(l) != 1 || l[0].Until != noon+life || l[0].Flow.Dst != 9 {
				t.Errorf("life %d: %+v", life, l)
			}
		}
	}
}
