package audit_test

import (
	"fmt"
	"slices"
	"strings"
	"testing"

	"rutter/api"
	"rutter/arp"
	"rutter/audit"
	"rutter/control"
	"rutter/session"
	"rutter/world"
)

// An ordinary world has a span and a life.
const (
	span = 10
	life = 20
)

// nobody is who the controller is.
const nobody = api.Nobody

// mac is a port's usual address.
func mac(port int) uint64 { return 1<<41 + uint64(port) }

// Rows of three phases, with a port's usual address.
func bound(port, owner, gen, ver int) api.Row {
	return api.Row{Port: port, MAC: mac(port), Owner: owner, Target: -1, Old: -1, Gen: gen, Phase: api.Bound, Ver: ver}
}

func moving(port, owner, target, gen, ver int) api.Row {
	return api.Row{Port: port, MAC: mac(port), Owner: owner, Target: target, Old: -1, Gen: gen, Phase: api.Moving, Ver: ver}
}

func moved(port, owner, old, gen, ver int) api.Row {
	return api.Row{Port: port, MAC: mac(port), Owner: owner, Target: -1, Old: old, Gen: gen, Phase: api.Moved, Ver: ver}
}

func gone(port, gen, ver int) api.Row {
	return api.Row{Port: port, MAC: mac(port), Owner: -1, Target: -1, Old: -1, Gen: gen, Phase: api.Gone, Ver: ver}
}

// asks is a call of these, with the port's usual address.
func asks(op api.Op, port, chassis int) api.Call {
	return api.Call{Op: op, Port: port, Chassis: chassis, MAC: mac(port)}
}

// plainFrame is one to a port's usual address; announces one with which a guest tells it.
func plainFrame(port int) api.Frame {
	return api.Frame{Dst: mac(port), Src: mac(77), Type: 0x1234, Load: []byte("a guest's load")}
}

func announces(port int) api.Frame {
	f, _ := arp.RARP(mac(port))
	return f
}

// made is a new world, in which these are up, beside the controller.
func made(t testing.TB, l ...int) *world.World {
	t.Helper()
	w, e := world.New(span, life)
	if e != api.OK {
		t.Fatalf("New: %d", e)
	}
	starts(t, w, l...)
	return w
}

// all are all chassis.
func all() []int {
	var l []int
	for n := range 16 {
		l = append(l, n)
	}
	return l
}

// ok checks that a call has no error.
func ok(t testing.TB, e api.Errno) {
	t.Helper()
	if e != api.OK {
		t.Fatalf("error %d", e)
	}
}

// starts, crashes and steps do it with all of these.
func starts(t testing.TB, w *world.World, l ...int) {
	t.Helper()
	for _, who := range l {
		ok(t, w.Start(who))
	}
}

func crashes(t testing.TB, w *world.World, l ...int) {
	t.Helper()
	for _, who := range l {
		ok(t, w.Crash(who))
	}
}

func steps(t testing.TB, w *world.World, l ...int) {
	t.Helper()
	for _, who := range l {
		ok(t, w.Step(who))
	}
}

// does lets the controller do a call that has no error.
func does(t testing.TB, w *world.World, x api.Call) {
	t.Helper()
	_, e := w.API(x)
	ok(t, e)
}

// sends lets a guest at a chassis send a frame.
func sends(t testing.TB, w *world.World, chassis int, f api.Frame) {
	t.Helper()
	_, e := w.Inject(chassis, f)
	ok(t, e)
}

// allCome lets all that is under way come, the first one always.
func allCome(t testing.TB, w *world.World) {
	t.Helper()
	for w.Len() > 0 {
		ok(t, w.Deliver(0))
	}
}

// rounds lets the controller and chassis 0 to 3 step, and all come, so many times.
func rounds(t testing.TB, w *world.World, n int) {
	t.Helper()
	for range n {
		steps(t, w, nobody, 0, 1, 2, 3)
		allCome(t, w)
	}
}

// town is a world of chassis 0 to 3, where all are up, and have heard that port 3 is at 1, and port 4 at 2.
func town(t testing.TB) *world.World {
	t.Helper()
	w := made(t, 0, 1, 2, 3)
	for n := range 4 {
		does(t, w, asks(api.AddChassis, 0, n))
	}
	does(t, w, asks(api.AddPort, 3, 1))
	does(t, w, asks(api.AddPort, 4, 2))
	rounds(t, w, 4)
	for n := range 4 {
		if l := w.Agent(n).Rows(); !slices.Equal(l, []api.Row{bound(3, 1, 1, 1), bound(4, 2, 1, 1)}) {
			t.Fatalf("%d has %+v", n, l)
		}
	}
	return w
}

// believes lets an agent hear of rows which no controller told it, so that what can't come about can be.
func believes(t testing.TB, w *world.World, chassis int, l ...api.Row) {
	t.Helper()
	a := w.Agent(chassis)
	mine, e := session.Decode(a.Out()[0])
	ok(t, e)
	for i, r := range l {
		b, e := control.Encode(api.Message{Kind: 1, Row: r})
		ok(t, e)
		b, e = session.Encode(session.Letter{Mine: a.Peer() + 1, Peer: mine.Mine, Seq: 1, Body: b})
		ok(t, e)
		if e = a.Take(b, w.Now()); e != api.OK || !slices.Contains(w.Agent(chassis).Rows(), r) {
			t.Fatalf("row %d, %+v: %d: %d has %+v", i, r, e, chassis, w.Agent(chassis).Rows())
		}
	}
}

// look tells all that can be told of a world without a call that changes it.
func look(w *world.World) string {
	var out strings.Builder
	fmt.Fprintf(&out, "now %d, %+v, %d lost of", w.Now(), w.Events(), w.Lost())
	for i := range w.Len() {
		x, _ := w.At(i)
		fmt.Fprintf(&out, " %v", x)
	}
	c := w.Ctl()
	fmt.Fprintf(&out, "; controller %v %+v %d %d", c != nil, c.Rows(), c.Chassis(), c.Boot())
	for n := range 16 {
		a := w.Agent(n)
		fmt.Fprintf(&out, "; %d: %x %v, %v %+v %+v %x %v", n, c.Out(n), c.Idle(n), a != nil, a.Rows(), a.Records(w.Now()), a.Out(), a.Idle())
	}
	return out.String()
}

// twice checks which row two have, again and again, and that the world stays as it was.
func twice(t testing.TB, w *world.World, want api.Row, there bool) {
	t.Helper()
	was := look(w)
	for range 2 {
		if r, ok := audit.Twice(w); r != want || ok != there {
			t.Fatalf("Twice: %+v, %v; want %+v, %v, of %s", r, ok, want, there, was)
		}
	}
	if got := look(w); got != was {
		t.Fatalf("Twice left %s; was %s", got, was)
	}
}

// both checks that two have a row; once that there is none that two have.
func both(t testing.TB, w *world.World, want api.Row) {
	t.Helper()
	twice(t, w, want, true)
	fine(t, w, false)
}

func once(t testing.TB, w *world.World) {
	t.Helper()
	twice(t, w, api.Row{}, false)
}

// fine checks whether a world is, again and again, and that it stays as it was.
func fine(t testing.TB, w *world.World, want bool) {
	t.Helper()
	was := look(w)
	for range 2 {
		if got := audit.Fine(w); got != want {
			t.Fatalf("Fine: %v; want %v, of %s", got, want, was)
		}
	}
	if got := look(w); got != was {
		t.Fatalf("Fine left %s; was %s", got, was)
	}
}
