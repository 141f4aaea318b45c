package world_test

import (
	"fmt"
	"math"
	"slices"
	"strings"
	"testing"

	"rutter/agent"
	"rutter/api"
	"rutter/arp"
	"rutter/ctl"
	"rutter/ether"
	"rutter/inet"
	"rutter/net"
	"rutter/session"
	"rutter/tunnel"
	"rutter/world"
)

// An ordinary world has a span and a life. Most is done at noon.
const (
	span = 10
	life = 20
	noon = 100
)

// nobody is who the controller is.
const nobody = api.Nobody

// The kinds of items.
const (
	up   = 0
	down = 1
	data = 2
)

// mac is a port's usual address.
func mac(port int) uint64 { return 1<<41 + uint64(port) }

// Rows of each phase, with a port's usual address, since noon.
func bound(port, owner, gen, ver int) api.Row {
	return api.Row{Port: port, MAC: mac(port), Owner: owner, Target: -1, Old: -1, Gen: gen, Phase: api.Bound, Ver: ver, Since: noon}
}

func moving(port, owner, target, gen, ver int) api.Row {
	return api.Row{Port: port, MAC: mac(port), Owner: owner, Target: target, Old: -1, Gen: gen, Phase: api.Moving, Ver: ver, Since: noon}
}

func moved(port, owner, old, gen, ver int) api.Row {
	return api.Row{Port: port, MAC: mac(port), Owner: owner, Target: -1, Old: old, Gen: gen, Phase: api.Moved, Ver: ver, Since: noon}
}

func gone(port, gen, ver int) api.Row {
	return api.Row{Port: port, MAC: mac(port), Owner: -1, Target: -1, Old: -1, Gen: gen, Phase: api.Gone, Ver: ver, Since: noon}
}

// at is a row since another time.
func at(now int, r api.Row) api.Row {
	r.Since = now
	return r
}

// asks is a call of these, with the port's usual address.
func asks(op api.Op, port, chassis int) api.Call {
	return api.Call{Op: op, Port: port, Chassis: chassis, MAC: mac(port)}
}

// adds is the call that adds a chassis.
func adds(chassis int) api.Call { return api.Call{Op: api.AddChassis, Chassis: chassis} }

// Frames: one to an address, one that has a datagram, and one with which a guest announces its port's usual address.
func plainFrame(to uint64) api.Frame {
	return api.Frame{Dst: to, Src: mac(77), Type: 0x1234, Load: []byte("a guest's load")}
}

func talk(t testing.TB, to uint64, n int) api.Frame {
	t.Helper()
	b, e := inet.Make(api.Flow{Proto: api.TCP, Src: 1, Dst: uint32(n), SrcPort: 1024, DstPort: 80}, []byte("hi"))
	if e != api.OK {
		t.Fatalf("Make: %d", e)
	}
	return api.Frame{Dst: to, Src: mac(77), Type: api.TypeIPv4, Load: b}
}

func wake(t testing.TB, port int) api.Frame {
	t.Helper()
	f, e := arp.RARP(mac(port))
	if e != api.OK {
		t.Fatalf("RARP: %d", e)
	}
	return f
}

// raw are a frame's bytes.
func raw(t testing.TB, f api.Frame) []byte {
	t.Helper()
	b, e := ether.Encode(f)
	if e != api.OK {
		t.Fatalf("%+v: %d", f, e)
	}
	return b
}

// packet are a packet's bytes.
func packet(t testing.TB, p api.Packet) []byte {
	t.Helper()
	b, e := tunnel.Encode(p)
	if e != api.OK {
		t.Fatalf("%+v: %d", p, e)
	}
	return b
}

// Numbers that are nobody's, and those that are no chassis'.
func nobodies() []int {
	return []int{math.MinInt, -1 << 32, -17, -3, -2, 16, 17, 31, 255, 256, 257, 1<<32 - 1, 1 << 32, math.MaxInt}
}

func wrongChassis() []int { return append(nobodies(), -1) }

// everyone is who there can be.
func everyone() []int {
	l := []int{nobody}
	for n := range 16 {
		l = append(l, n)
	}
	return l
}

// made is a new world.
func made(t testing.TB, span, life int) *world.World {
	t.Helper()
	w, e := world.New(span, life)
	if w == nil || e != api.OK {
		t.Fatalf("New(%d, %d): %v, %d", span, life, w, e)
	}
	return w
}

// isUp tells whether who is.
func isUp(w *world.World, who int) bool {
	if who == nobody {
		return w.Ctl() != nil
	}
	return w.Agent(who) != nil
}

// ofCtl tells all that can be told of a controller.
func ofCtl(c *ctl.Ctl) string {
	var out strings.Builder
	fmt.Fprintf(&out, "controller %+v %d boot %d", c.Rows(), c.Chassis(), c.Boot())
	for n := range 16 {
		fmt.Fprintf(&out, "; %d: %x %v", n, c.Out(n), c.Idle(n))
	}
	return out.String()
}

// ofAgent tells all that can be told of an agent.
func ofAgent(a *agent.Agent, now int) string {
	return fmt.Sprintf("agent %+v %+v %x %v", a.Rows(), a.Records(now), a.Out(), a.Idle())
}

// ofWho tells all that can be told of who is up.
func ofWho(w *world.World, who int) string {
	switch {
	case !isUp(w, who):
		return "down"
	case who == nobody:
		return ofCtl(w.Ctl())
	}
	return ofAgent(w.Agent(who), w.Now())
}

// ofNet tells all that is under way.
func ofNet(w *world.World) string {
	return fmt.Sprintf("%d lost of the net, which has %v", w.Lost(), items(w))
}

// items are those that are under way.
func items(w *world.World) []net.Item {
	var l []net.Item
	for i := range w.Len() {
		x, _ := w.At(i)
		l = append(l, x)
	}
	return l
}

// look tells all that can be told of a world without a call that changes it.
func look(w *world.World) string {
	l := []string{fmt.Sprintf("now %d, %+v", w.Now(), w.Events()), ofNet(w)}
	for _, who := range everyone() {
		l = append(l, ofWho(w, who))
	}
	return strings.Join(l, "\n")
}

// stays checks that nothing is changed by what is done, which answers an error.
func stays(t testing.TB, w *world.World, what string, want api.Errno, do func() api.Errno) {
	t.Helper()
	was := look(w)
	if e := do(); e != want {
		t.Errorf("%s: %d; want the error %d", what, e, want)
	}
	if got := look(w); got != was {
		t.Errorf("%s: %s\n\nwas %s", what, got, was)
	}
}

// does lets the controller do a call that has no error.
func does(t testing.TB, w *world.World, x api.Call) api.Row {
	t.Helper()
	r, e := w.API(x)
	if e != api.OK {
		t.Fatalf("%+v: %d", x, e)
	}
	return r
}

// ticks lets time pass.
func ticks(t testing.TB, w *world.World, n int) {
	t.Helper()
	if e := w.Tick(n); e != api.OK {
		t.Fatalf("Tick(%d) at %d: %d", n, w.Now(), e)
	}
}

// starts, crashes and steps do it with all of these.
func starts(t testing.TB, w *world.World, l ...int) {
	t.Helper()
	for _, who := range l {
		if e := w.Start(who); e != api.OK || !isUp(w, who) {
			t.Fatalf("Start(%d): %d", who, e)
		}
	}
}

func crashes(t testing.TB, w *world.World, l ...int) {
	t.Helper()
	for _, who := range l {
		if e := w.Crash(who); e != api.OK || isUp(w, who) {
			t.Fatalf("Crash(%d): %d", who, e)
		}
	}
}

func steps(t testing.TB, w *world.World, l ...int) {
	t.Helper()
	for _, who := range l {
		if e := w.Step(who); e != api.OK {
			t.Fatalf("Step(%d): %d", who, e)
		}
	}
}

// comes lets what is at a place of the net come.
func comes(t testing.TB, w *world.World, i int) {
	t.Helper()
	n := w.Len()
	if e := w.Deliver(i); e != api.OK || n == 0 {
		t.Fatalf("Deliver(%d) of %d: %d", i, n, e)
	}
}

// allCome lets all that is under way come, the first one always.
func allCome(t testing.TB, w *world.World) {
	t.Helper()
	for w.Len() > 0 {
		comes(t, w, 0)
	}
}

// tells lets what the controller has to tell come to these chassis; what goes to others is lost.
func tells(t testing.TB, w *world.World, l ...int) {
	t.Helper()
	steps(t, w, nobody)
	for i := 0; i < w.Len(); {
		switch x, _ := w.At(i); {
		case x.Kind != down:
			i++
		case slices.Contains(l, x.Chassis):
			comes(t, w, i)
		default:
			w.Drop(i)
		}
	}
}

// rounds lets all who are up step, and all come, so many times.
func rounds(t testing.TB, w *world.World, n int) {
	t.Helper()
	for range n {
		for _, who := range everyone() {
			if isUp(w, who) {
				steps(t, w, who)
			}
		}
		allCome(t, w)
	}
}

// sends lets a guest at a chassis send a frame: its ID.
func sends(t testing.TB, w *world.World, chassis int, f api.Frame) int {
	t.Helper()
	id, e := w.Inject(chassis, f)
	if e != api.OK || id < 1 {
		t.Fatalf("Inject at %d of %+v: %d, %d", chassis, f, id, e)
	}
	return id
}

// peopled is a world at noon, of four chassis, whose agents are up: port 3 is bound at 1, and port 4 at 2. Nobody has heard of anything yet.
func peopled(t testing.TB) *world.World {
	t.Helper()
	w := made(t, span, life)
	ticks(t, w, noon)
	for n := range 4 {
		does(t, w, adds(n))
	}
	starts(t, w, 0, 1, 2, 3)
	does(t, w, asks(api.AddPort, 3, 1))
	does(t, w, asks(api.AddPort, 4, 2))
	return w
}

// town is one where all have heard of all, and nothing is to be told.
func town(t testing.TB) *world.World {
	t.Helper()
	w := peopled(t)
	rounds(t, w, 4)
	knows(t, w, 0, bound(3, 1, 1, 1), bound(4, 2, 1, 1))
	for n := range 4 {
		if !w.Agent(n).Idle() || !w.Ctl().Idle(n) {
			t.Fatalf("of %d there is something to be told: %s", n, look(w))
		}
	}
	happened(t, w)
	return w
}

// leaving is a town in which port 3 is moving to 2, which all have heard of, and the guest there is awake; of that nobody has heard, but it is under way.
func leaving(t testing.TB) *world.World {
	t.Helper()
	w := town(t)
	does(t, w, asks(api.Start, 3, 2))
	rounds(t, w, 2)
	knows(t, w, 2, moving(3, 1, 2, 1, 2), bound(4, 2, 1, 1))
	sends(t, w, 2, wake(t, 3))
	steps(t, w, 2)
	return w
}

// knows checks which rows an agent has.
func knows(t testing.TB, w *world.World, chassis int, want ...api.Row) {
	t.Helper()
	if got := w.Agent(chassis).Rows(); !slices.Equal(got, want) {
		t.Fatalf("%d has %+v; want %+v", chassis, got, want)
	}
}

// decided checks which rows the controller has.
func decided(t testing.TB, w *world.World, want ...api.Row) {
	t.Helper()
	if got := w.Ctl().Rows(); !slices.Equal(got, want) {
		t.Fatalf("the controller has %+v; want %+v", got, want)
	}
}

// happened checks which events there are.
func happened(t testing.TB, w *world.World, want ...world.Event) {
	t.Helper()
	if got := w.Events(); !slices.Equal(got, want) {
		t.Fatalf("events %+v; want %+v", got, want)
	}
}

// then checks which events there are behind so many.
func then(t testing.TB, w *world.World, n int, want ...world.Event) {
	t.Helper()
	if got := w.Events(); len(got) < n || !slices.Equal(got[n:], want) {
		t.Fatalf("events %+v; want, behind %d, %+v", got, n, want)
	}
}

// same tells whether two items are.
func same(x, y net.Item) bool {
	return x.Kind == y.Kind && x.Chassis == y.Chassis && string(x.Bytes) == string(y.Bytes)
}

// carries checks all that is under way.
func carries(t testing.TB, w *world.World, want ...net.Item) {
	t.Helper()
	if got := items(w); !slices.EqualFunc(got, want, same) {
		t.Fatalf("the net has %v; want %v", got, want)
	}
}

// of are items of a kind and a chassis, one of each of these bytes.
func of(kind, chassis int, l ...[]byte) []net.Item {
	var all []net.Item
	for _, b := range l {
		all = append(all, net.Item{Kind: kind, Chassis: chassis, Bytes: b})
	}
	return all
}

// boot is an agent's, as its letters tell it.
func boot(t testing.TB, w *world.World, chassis int) int {
	t.Helper()
	l := w.Agent(chassis).Out()
	if len(l) == 0 {
		t.Fatalf("%d has no letters", chassis)
	}
	x, e := session.Decode(l[0])
	if e != api.OK {
		t.Fatalf("%x: %d", l[0], e)
	}
	return x.Mine
}
