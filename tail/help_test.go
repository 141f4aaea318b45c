package tail_test

import (
	"fmt"
	"slices"
	"strings"
	"testing"

	"rutter/agent"
	"rutter/api"
	"rutter/arp"
	"rutter/control"
	"rutter/session"
	"rutter/tail"
	"rutter/world"
)

// An ordinary world has a span and a life.
const (
	span = 10
	life = 20
)

// nobody is who the controller is.
const nobody = api.Nobody

// mac is a port's usual address.
func mac(port int) uint64 { return 1<<41 + uint64(port) }

// bound is such a row, with its port's usual address.
func bound(port, owner, gen, ver int) api.Row {
	return api.Row{Port: port, MAC: mac(port), Owner: owner, Target: -1, Old: -1, Gen: gen, Phase: api.Bound, Ver: ver}
}

// asks is a call of these, with the port's usual address.
func asks(op api.Op, port, chassis int) api.Call {
	return api.Call{Op: op, Port: port, Chassis: chassis, MAC: mac(port)}
}

// plainFrame is one to a port's usual address; announces one with which a guest tells it.
func plainFrame(port int) api.Frame {
	return api.Frame{Dst: mac(port), Src: mac(77), Type: 0x1234, Load: []byte("a guest's load")}
}

func announces(port int) api.Frame {
	f, _ := arp.RARP(mac(port))
	return f
}

// ok checks that a call has no error.
func ok(t testing.TB, e api.Errno) {
	t.Helper()
	if e != api.OK {
		t.Fatalf("error %d", e)
	}
}

// has checks an error.
func has(t testing.TB, e, want api.Errno) {
	t.Helper()
	if e != want {
		t.Fatalf("error %d; want %d", e, want)
	}
}

// made is a new world of a span, of which these are members, none of them up.
func made(t testing.TB, span int, members ...int) *world.World {
	t.Helper()
	w, e := world.New(span, life)
	ok(t, e)
	adds(t, w, members...)
	return w
}

// adds lets these be members.
func adds(t testing.TB, w *world.World, l ...int) {
	t.Helper()
	for _, n := range l {
		does(t, w, asks(api.AddChassis, 0, n))
	}
}

// starts, crashes and steps do it with all of these.
func starts(t testing.TB, w *world.World, l ...int) {
	t.Helper()
	for _, who := range l {
		ok(t, w.Start(who))
	}
}

func crashes(t testing.TB, w *world.World, l ...int) {
	t.Helper()
	for _, who := range l {
		ok(t, w.Crash(who))
	}
}

func steps(t testing.TB, w *world.World, l ...int) {
	t.Helper()
	for _, who := range l {
		ok(t, w.Step(who))
	}
}

// does lets the controller do calls that have no error.
func does(t testing.TB, w *world.World, l ...api.Call) {
	t.Helper()
	for _, x := range l {
		if _, e := w.API(x); e != api.OK {
			t.Fatalf("%+v: error %d", x, e)
		}
	}
}

// sends lets a guest at a chassis send a frame: its ID.
func sends(t testing.TB, w *world.World, chassis int, f api.Frame) int {
	t.Helper()
	id, e := w.Inject(chassis, f)
	ok(t, e)
	return id
}

// allCome lets all that is under way come, the first one always.
func allCome(t testing.TB, w *world.World) {
	t.Helper()
	for w.Len() > 0 {
		ok(t, w.Deliver(0))
	}
}

// talks lets the controller and these step, and all come, so many times, while no time passes.
func talks(t testing.TB, w *world.World, times int, l ...int) {
	t.Helper()
	for range times {
		steps(t, w, nobody)
		steps(t, w, l...)
		allCome(t, w)
	}
}

// tellsBut lets the controller step, and all come but what goes down to one.
func tellsBut(t testing.TB, w *world.World, chassis int) {
	t.Helper()
	steps(t, w, nobody)
	for w.Len() > 0 {
		if x, _ := w.At(0); x.Kind == 1 && x.Chassis == chassis {
			ok(t, w.Drop(0))
		} else {
			ok(t, w.Deliver(0))
		}
	}
}

// town is a settled world of members 0 to 3, where port 3 is at 1, and port 4 at 2.
func town(t testing.TB) *world.World {
	t.Helper()
	w := made(t, span, 0, 1, 2, 3)
	starts(t, w, 0, 1, 2, 3)
	does(t, w, asks(api.AddPort, 3, 1), asks(api.AddPort, 4, 2))
	talks(t, w, 4, 0, 1, 2, 3)
	for n := range 4 {
		if l := w.Agent(n).Rows(); !slices.Equal(l, []api.Row{bound(3, 1, 1, 1), bound(4, 2, 1, 1)}) {
			t.Fatalf("%d has %+v", n, l)
		}
	}
	settled(t, w, true)
	return w
}

// row is a port's, of a world's controller; 0, if that is down, or has none.
func row(w *world.World, port int) api.Row {
	for _, r := range w.Ctl().Rows() {
		if r.Port == port {
			return r
		}
	}
	return api.Row{}
}

// boot is how often an agent was started.
func boot(t testing.TB, a *agent.Agent) int {
	t.Helper()
	l, e := session.Decode(a.Out()[0])
	ok(t, e)
	return l.Mine
}

// knows is the boot of a chassis' agent that the controller knows.
func knows(t testing.TB, w *world.World, chassis int) int {
	t.Helper()
	l, e := session.Decode(w.Ctl().Out(chassis)[0])
	ok(t, e)
	return l.Peer
}

// believes lets an agent hear, of a boot, of rows which no controller told it, one behind the other, so that what can't come about can be.
func believes(t testing.TB, w *world.World, chassis, of int, l ...api.Row) {
	t.Helper()
	a := w.Agent(chassis)
	for i := range len(l) + 1 {
		x := session.Letter{Mine: of, Peer: boot(t, a)}
		if i > 0 {
			b, e := control.Encode(api.Message{Kind: 1, Row: l[i-1]})
			ok(t, e)
			x.Seq, x.Body = i, b
		}
		b, e := session.Encode(x)
		ok(t, e)
		ok(t, a.Take(b, w.Now()))
	}
}

// look tells all that can be told of a world without a call that changes it.
func look(w *world.World) string {
	var out strings.Builder
	fmt.Fprintf(&out, "now %d, %+v, %d lost of", w.Now(), w.Events(), w.Lost())
	for i := range w.Len() {
		x, _ := w.At(i)
		fmt.Fprintf(&out, " %v", x)
	}
	c := w.Ctl()
	fmt.Fprintf(&out, "; controller %v %+v %d %d", c != nil, c.Rows(), c.Chassis(), c.Boot())
	for n := range 16 {
		a := w.Agent(n)
		fmt.Fprintf(&out, "; %d: %x %v, %v %+v %+v %x %v", n, c.Out(n), c.Idle(n), a != nil, a.Rows(), a.Records(w.Now()), a.Out(), a.Idle())
	}
	return out.String()
}

// stays checks that a world is as it was.
func stays(t testing.TB, w *world.World, was string) {
	t.Helper()
	if got := look(w); got != was {
		t.Fatalf("left %s; was %s", got, was)
	}
}

// settled checks whether a world is, again and again, and that it stays as it was.
func settled(t testing.TB, w *world.World, want bool) {
	t.Helper()
	was := look(w)
	for range 2 {
		if got := tail.Settled(w); got != want {
			t.Fatalf("Settled: %v; want %v, of %s", got, want, was)
		}
	}
	stays(t, w, was)
}

// begins is a Begin that has no error.
func begins(t testing.TB, w *world.World) {
	t.Helper()
	ok(t, tail.Begin(w))
}

// goes is a round that has no error, of so many letters, and so much data: it tells how many were delivered, which the letters of one that is lost were not.
func goes(t testing.TB, w *world.World, lost bool, letters, data int) {
	t.Helper()
	now, want := w.Now(), letters+data
	if lost {
		want = data
	}
	if n, e := tail.Round(w, lost); n != want || e != api.OK {
		t.Fatalf("Round %v: %d, %d; want %d", lost, n, e, want)
	}
	if w.Now() != now+1 || w.Len() != 0 {
		t.Fatalf("Round %v: at %d, %d under way; was at %d", lost, w.Now(), w.Len(), now)
	}
}

// stands checks that a round, lost or not, has an error, and does nothing.
func stands(t testing.TB, w *world.World, want api.Errno) {
	t.Helper()
	was := look(w)
	for _, lost := range []bool{false, true, false} {
		if n, e := tail.Round(w, lost); n != 0 || e != want {
			t.Fatalf("Round %v: %d, %d; want error %d", lost, n, e, want)
		}
	}
	stays(t, w, was)
}

// runs checks what Run tells.
func runs(t testing.TB, w *world.World, rounds, loss, want int, e api.Errno) {
	t.Helper()
	if n, f := tail.Run(w, rounds, loss); n != want || f != e {
		t.Fatalf("Run %d, %d: %d, %d; want %d, %d", rounds, loss, n, f, want, e)
	}
}
