package world_test

import (
	"testing"

	"rutter/api"
	"rutter/world"
)

// Deeds, by their kinds.
const (
	calls = iota
	breaks
	passes
	rises
	falls
	goes
	lands
	vanishes
	doubles
	guests
)

// deed is something that is done with a world.
type deed struct {
	kind   int
	x      api.Call
	who, n int
	f      api.Frame
}

// said is what was answered.
type said struct {
	r  api.Row
	id int
	e  api.Errno
}

// doer is a world, or what is held against it.
type doer interface {
	API(x api.Call) (api.Row, api.Errno)
	Break(x api.Call, keep int) api.Errno
	Tick(n int) api.Errno
	Start(who int) api.Errno
	Crash(who int) api.Errno
	Step(who int) api.Errno
	Deliver(i int) api.Errno
	Drop(i int) api.Errno
	Double(i int) api.Errno
	Inject(chassis int, f api.Frame) (int, api.Errno)
}

// to does it.
func (d deed) to(w doer) said {
	switch d.kind {
	case calls:
		r, e := w.API(d.x)
		return said{r: r, e: e}
	case breaks:
		return said{e: w.Break(d.x, d.n)}
	case passes:
		return said{e: w.Tick(d.n)}
	case rises:
		return said{e: w.Start(d.who)}
	case falls:
		return said{e: w.Crash(d.who)}
	case goes:
		return said{e: w.Step(d.who)}
	case lands:
		return said{e: w.Deliver(d.n)}
	case vanishes:
		return said{e: w.Drop(d.n)}
	case doubles:
		return said{e: w.Double(d.n)}
	}
	id, e := w.Inject(d.who, d.f)
	return said{id: id, e: e}
}

// who is one of few who are up, or down, as is wanted; seldom any.
func (c *chance) who(w *world.World, wantUp bool) int {
	l := []int{}
	for _, n := range []int{nobody, 0, 1, 2, 3} {
		if isUp(w, n) == wantUp {
			l = append(l, n)
		}
	}
	if c.below(30) == 0 || len(l) == 0 {
		return one(c, nobody, c.below(16), c.below(4), c.edge())
	}
	return one(c, l...)
}

// place is most often the first one; seldom there is nothing.
func (c *chance) place(w *world.World) int {
	switch k := c.below(40); {
	case k == 0:
		return one(c, -1, w.Len(), w.Len()+1, c.edge())
	case k < 12 && w.Len() > 0:
		return c.below(w.Len())
	}
	return 0
}

// next is a place of a kind of items, if there is one.
func (c *chance) next(w *world.World, kind int) int {
	if w.Len() == 0 {
		return 0
	}
	at := c.below(w.Len())
	for i := range w.Len() {
		n := (at + i) % w.Len()
		if x, _ := w.At(n); x.Kind == kind {
			return n
		}
	}
	return 0
}

// guest is any frame at any chassis: most often one to a port, or that announces it where it moves to.
func (c *chance) guest(t testing.TB, w *world.World) deed {
	t.Helper()
	d := deed{kind: guests, who: one(c, nobody, c.who(w, true))}
	port := c.port()
	for _, r := range w.Ctl().Rows() {
		if r.Phase == api.Moving && c.below(3) == 0 {
			port = r.Port
		}
	}
	r := row(w.Ctl(), port)
	switch k := c.below(20); {
	case k == 0:
		d.f = one(c, wrongFrames()...)
	case k == 1:
		d.f = one(c, rightFrames()...)
	case k < 8:
		d.f = wake(t, port)
		if r.Phase == api.Moving && c.below(3) > 0 {
			d.who = r.Target
		}
	case k < 14:
		d.f = plainFrame(mac(port))
	default:
		d.f = talk(t, mac(port), c.below(20))
	}
	if d.who == nobody && c.below(9) > 0 {
		d.who = c.elder(w, r)
	}
	return d
}

// elder is a chassis, if there is one, that has an elder row of a port.
func (c *chance) elder(w *world.World, r api.Row) int {
	at := c.below(4)
	for i := range 4 {
		n := (at + i) % 4
		for _, x := range w.Agent(n).Rows() {
			if x.Port == r.Port && x.Gen < r.Gen {
				return n
			}
		}
	}
	return at
}

// mood is how often, of a thousand deeds, somebody crashes, time passes, and the controller is asked for something.
type mood struct{ falls, passes, calls int }

// moods are a calm one, a wild one, and one of many moves.
func moods() []mood { return []mood{{3, 10, 50}, {25, 40, 60}, {1, 4, 90}} }

// deed is any one: most often one of those that let something happen.
func (c *chance) deed(t testing.TB, w *world.World, m mood) deed {
	t.Helper()
	switch k := c.below(1000); {
	case k < m.falls:
		if c.below(5) == 0 {
			return deed{kind: breaks, x: c.call(w.Ctl()), n: one(c, -1, 0, 7, 8, 20, 34, 35, 99)}
		}
		return deed{kind: falls, who: c.who(w, c.below(20) > 0)}
	case k < m.falls+m.passes:
		return deed{kind: passes, n: c.ticks()}
	case k < m.falls+m.passes+m.calls:
		return deed{kind: calls, x: c.call(w.Ctl())}
	case k < 200:
		if w.Ctl() == nil || c.below(4) == 0 {
			return deed{kind: rises, who: c.who(w, c.below(20) == 0)}
		}
	case k < 400:
		return c.guest(t, w)
	}
	return c.goesOn(w)
}

// goesOn is a deed with the net, so that it neither stays empty nor becomes full.
func (c *chance) goesOn(w *world.World) deed {
	k := c.below(100)
	if w.Len() > 8 {
		k = 42 + c.below(58)
	}
	switch {
	case k < 35:
		return deed{kind: goes, who: c.who(w, c.below(50) > 0)}
	case k < 38:
		return deed{kind: doubles, n: c.place(w)}
	case k < 42:
		return deed{kind: doubles, n: c.next(w, data)}
	case k < 48:
		return deed{kind: vanishes, n: c.place(w)}
	case k < 65:
		return deed{kind: lands, n: c.next(w, data)}
	}
	return deed{kind: lands, n: c.place(w)}
}

// ticks are how many pass: most often few.
func (c *chance) ticks() int {
	if c.below(12) == 0 {
		return one(c, span, 1<<30, c.edge())
	}
	return one(c, 1, 1, 2, 3)
}

// begun is a world, or what is held against it, with a few chassis and ports.
func begun(t testing.TB, w doer) {
	t.Helper()
	for n := range 4 {
		w.API(adds(n))
		w.Start(n)
	}
	for _, port := range []int{3, 4, 5} {
		w.API(asks(api.AddPort, port, port%4))
	}
}
