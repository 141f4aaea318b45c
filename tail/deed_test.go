package tail_test

import (
	"testing"

	"rutter/api"
	"rutter/inet"
	"rutter/world"
)

// most is how many chassis are asked for, mostly.
const most = 6

// port and chassis are one of few, seldom any.
func (c *chance) port() int {
	if c.below(30) == 0 {
		return c.below(32)
	}
	return one(c, 0, 3, 4, 5, 31)
}

func (c *chance) chassis() int {
	if c.below(40) == 0 {
		return c.edge()
	}
	return c.below(most)
}

// mac is mostly a port's usual address.
func (c *chance) mac(port int) uint64 {
	if c.below(12) == 0 {
		return one(c, 0, 1, 1<<40+5, api.MaxMAC, mac(c.port()), uint64(c.edge()))
	}
	return mac(port)
}

// call is any call: most often one that may be done with a port's row.
func (c *chance) call(w *world.World) api.Call {
	x := asks(api.Op(c.below(8)), c.port(), c.chassis())
	x.MAC = c.mac(x.Port)
	switch c.below(16) {
	case 0, 1:
		return x
	case 2:
		x.Op = one(c, api.AddChassis, api.AddChassis, api.AddChassis, api.RemoveChassis)
		return x
	}
	switch r := row(w, x.Port); {
	case r.Ver == 0 || r.Phase == api.Gone:
		x.Op = api.AddPort
	case r.Phase == api.Bound:
		x.Op = one(c, api.Start, api.Start, api.Start, api.Start, api.RemovePort)
	case r.Phase == api.Moving:
		x.Op = one(c, api.Query, api.Query, api.Query, api.Commit, api.Abort)
	default:
		x.Op = one(c, api.Query, api.Commit)
	}
	return x
}

// isUp tells whether who is.
func isUp(w *world.World, who int) bool {
	if who == nobody {
		return w.Ctl() != nil
	}
	return w.Agent(who) != nil
}

// who is one of few who are up, or down, as is wanted, if there is one; seldom any.
func (c *chance) who(w *world.World, wantUp bool) int {
	l := []int{c.edge()}
	for n := nobody; n < most; n++ {
		if isUp(w, n) == wantUp {
			l = append(l, n, n, n, n, n)
		}
	}
	return one(c, l...)
}

// place is of the net: the first one, any, or, most often, the next that has data.
func (c *chance) place(w *world.World) int {
	n := w.Len()
	if n == 0 || c.below(40) == 0 {
		return c.edge()
	}
	at := c.below(n)
	switch c.below(3) {
	case 0:
		return 0
	case 1:
		return at
	}
	for i := range n {
		if x, _ := w.At((at + i) % n); x.Kind == 2 {
			return (at + i) % n
		}
	}
	return 0
}

// frameTo is any frame to an address: also one that announces one, or is of a flow that is tracked, with any load.
func (c *chance) frameTo(dst uint64) api.Frame {
	f := api.Frame{Dst: dst, Src: one(c, 0, dst, mac(77), api.MaxMAC), Type: one(c, 0, 1, 0x1234, api.TypeIPv4, api.TypeARP, 65535), Load: make([]byte, one(c, 0, 1, 28, 1499, 1500, c.below(1501)))}
	switch c.below(4) {
	case 0:
		x := announces(c.port())
		f.Type, f.Load = x.Type, x.Load
	case 1:
		f.Type = api.TypeIPv4
		f.Load, _ = inet.Make(api.Flow{Proto: one(c, api.TCP, api.UDP), Src: 1, Dst: uint32(c.below(20)), SrcPort: 1024, DstPort: 80}, make([]byte, c.below(9)))
	}
	return f
}

// guest lets one at any chassis, most often where an elder row of a port is, or where it moves to, send something.
func (c *chance) guest(w *world.World) api.Errno {
	port, n := c.port(), c.chassis()
	for _, r := range w.Ctl().Rows() {
		if r.Phase == api.Moving && c.below(3) == 0 {
			port, n = r.Port, r.Target
		}
	}
	for m := range most {
		for _, r := range w.Agent(m).Rows() {
			if r.Port == port && r.Gen < row(w, port).Gen && c.below(3) == 0 {
				n = m
			}
		}
	}
	f := c.frameTo(c.mac(port))
	if c.below(3) == 0 {
		f = announces(port)
	}
	_, e := w.Inject(n, f)
	return e
}

// moves lets something happen in the net, so that it neither stays empty nor becomes full.
func (c *chance) moves(w *world.World) (string, api.Errno) {
	k := c.below(100)
	if w.Len() > 12 {
		k = 40 + c.below(60)
	}
	switch {
	case k < 35:
		return "step", w.Step(c.who(w, c.below(50) > 0))
	case k < 42:
		return "double", w.Double(c.place(w))
	case k < 52:
		return "drop", w.Drop(c.place(w))
	}
	return "deliver", w.Deliver(c.place(w))
}

// mood is how often, of a thousand deeds, somebody crashes, time passes, and the controller is asked for something.
type mood struct{ falls, passes, calls int }

// moods are a calm one, a wild one, one of many moves, and one in which hardly anything comes.
func moods() []mood { return []mood{{3, 10, 50}, {25, 40, 60}, {1, 4, 90}, {8, 10, 500}} }

// does does anything with a world of a span: what it was, and its error.
func (c *chance) does(w *world.World, m mood, span int) (string, api.Errno) {
	switch k := c.below(1000); {
	case k < m.falls && c.below(4) == 0:
		return "break", w.Break(c.call(w), one(c, c.below(36), c.below(36), c.edge()))
	case k < m.falls:
		return "crash", w.Crash(c.who(w, c.below(20) > 0))
	case k < m.falls+m.passes:
		return "tick", w.Tick(one(c, 1, 1, 1, 2, 3, span, c.below(9)-1))
	case k < m.falls+m.passes+m.calls:
		_, e := w.API(c.call(w))
		return "call", e
	case k < 700 && (w.Ctl() == nil || c.below(12) == 0):
		return "start", w.Start(c.who(w, c.below(20) == 0))
	case k < 800 && c.below(3) == 0:
		return "inject", c.guest(w)
	}
	return c.moves(w)
}

// lived is a world of a span, behind so many deeds of a mood: it notes how often each was done.
func lived(t testing.TB, c *chance, span, deeds int, m mood, seen map[string]int) *world.World {
	t.Helper()
	w := made(t, span)
	for n := range most {
		if c.below(4) > 0 {
			adds(t, w, n)
		}
		if c.below(4) > 0 {
			starts(t, w, n)
		}
	}
	for range deeds {
		what, e := c.does(w, m, span)
		if e != api.OK {
			what = "error"
		}
		seen[what]++
	}
	return w
}

// enough checks that all was often enough.
func enough(t testing.TB, seen, want map[string]int) {
	t.Helper()
	for k, n := range want {
		if seen[k] < n {
			t.Errorf("of %s too few: %d; %v", k, seen[k], seen)
		}
	}
}
