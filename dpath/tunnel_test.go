package dpath_test

import (
	"math"
	"testing"

	"rutter/api"
	"rutter/dpath"
	"rutter/flow"
)

// came is the outcome of a packet that is delivered.
func came(p api.Packet, port, gen int) dpath.Outcome {
	return dpath.Outcome{Kind: 1, Port: port, Gen: gen, Stamp: p.Gen, Frame: p.Frame}
}

// passed is the outcome of a packet that is sent on.
func passed(p api.Packet, to, gen int) dpath.Outcome {
	return dpath.Outcome{Kind: 2, Packet: api.Packet{Kind: 2, Origin: p.Origin, From: p.To, To: to, Port: p.Port, Gen: gen, ID: p.ID, Frame: p.Frame}}
}

// both are an ordinary packet of Normal and one of Forward, each with that changed.
func both(l ...change) []api.Packet { return []api.Packet{normal(l...), forward(l...)} }

// TestTunnel: P15.1: dropped, delivered, and sent, each with what it has, and nothing else; what was forwarded isn't sent.
func TestTunnel(t *testing.T) {
	p, q := normal(), forward()
	drop, give, send := table(t, entry(does(0, 2, 8, 7))), table(t, entry(does(1, 2, 8, 7))), table(t, entry(does(2, 2, 8, 7)))
	tunnelled(t, drop, p, dpath.Outcome{})
	tunnelled(t, drop, q, dpath.Outcome{})
	tunnelled(t, give, p, dpath.Outcome{Kind: 1, Port: 2, Gen: 7, Stamp: 6, Frame: filled(20)})
	tunnelled(t, give, q, dpath.Outcome{Kind: 1, Port: 2, Gen: 7, Stamp: 6, Frame: filled(20)})
	tunnelled(t, send, p, dpath.Outcome{Kind: 2, Packet: api.Packet{Kind: 2, Origin: 3, From: 5, To: 8, Port: 9, Gen: 7, ID: 77, Frame: filled(20)}})
	tunnelled(t, send, q, dpath.Outcome{})
}

// TestTunnelNothing: P15.1: by no table, by an empty one, and by one where none fits, it is dropped.
func TestTunnelNothing(t *testing.T) {
	for _, s := range []*flow.Table{
		nil, {}, table(t),
		table(t, entry(does(1, 9, 8, 7), func(e *flow.Entry) { e.Port++ }), entry(does(2, 9, 8, 7), func(e *flow.Entry) { e.Port = 0 })),
		table(t, entry(does(1, 9, 8, 7), func(e *flow.Entry) { e.Ins = 1 })),
		table(t, entry(does(2, 9, 8, 7), func(e *flow.Entry) { e.Ins = 0 })),
	} {
		for n := range 16 {
			if n != 3 && n != 4 {
				tunnelled(t, s, normal(to(n)), dpath.Outcome{})
				tunnelled(t, s, forward(to(n)), dpath.Outcome{})
			}
		}
	}
}

// TestTunnelKinds: P15.1: what an action of each kind does, and of those that are none: dropped.
func TestTunnelKinds(t *testing.T) {
	for _, k := range append(edges(), -3, 5, 7, 1<<32+2, -1<<63+1) {
		s := table(t, entry(does(k, 2, 8, 7)))
		for _, p := range both() {
			want := dpath.Outcome{}
			switch {
			case k == 1:
				want = came(p, 2, 7)
			case k == 2 && p.Kind == 1:
				want = passed(p, 8, 7)
			}
			tunnelled(t, s, p, want)
		}
	}
}

// wrongPackets are packets that may not be, each by one thing, and by more of them.
func wrongPackets() []api.Packet {
	l := []api.Packet{{}, normal(from(4)), normal(from(9), to(3)), normal(to(3)), forward(from(3)), forward(origin(5)), forward(to(3)), forward(to(4)), forward(origin(4)), normal(kind(2)), forward(kind(1))}
	for _, n := range []api.Kind{math.MinInt, -1, 0, 3, 4, 255, 257, 1<<32 + 1, 1<<32 + 2, math.MaxInt} {
		l = append(l, both(kind(n))...)
	}
	for _, n := range edges() {
		if n < 0 || n > 15 {
			l = append(l, normal(starts(n)), normal(to(n)), normal(origin(n)), normal(from(n)), forward(origin(n)), forward(from(n)), forward(to(n)))
		}
		if n < 0 || n > 31 {
			l = append(l, both(port(n))...)
		}
		if n < 1 || n > 1<<32 {
			l = append(l, both(gen(n))...)
		}
		if n < 0 || n > 1<<40 {
			l = append(l, both(id(n))...)
		}
	}
	for _, n := range []int{0, 1, 13, 1515, 1516, 70000} {
		l = append(l, both(holds(filled(n)))...)
	}
	return append(append(l, both(holds(nil), gen(0))...), both(port(32), gen(1<<32+1), id(-1))...)
}

// TestTunnelWrongPackets: P15.1: packets that may not be, in each of their places, also where they go to the chassis.
func TestTunnelWrongPackets(t *testing.T) {
	for _, p := range wrongPackets() {
		noPacket(t, p.To, p)
		noPacket(t, 5, p)
		noPacket(t, -1, p)
		noPacket(t, 16, p)
	}
}

// TestTunnelElsewhere: P15.1: packets that go to another chassis than this one.
func TestTunnelElsewhere(t *testing.T) {
	for to16 := range 16 {
		for _, p := range both(to(to16)) {
			if !mayBe(p) {
				continue
			}
			for _, chassis := range append(edges(), 5, 14, 17) {
				if chassis != p.To {
					noPacket(t, chassis, p)
				}
			}
			noPacket(t, p.To+1<<32, p)
			noPacket(t, p.To-16, p)
			noPacket(t, p.From, p)
			noPacket(t, p.Origin, p)
			tunnelled(t, table(t, entry(does(1, 9, 8, 7))), p, came(p, 9, 7))
		}
	}
}

// TestTunnelPackets: P15.1: packets that may be, at each edge: what is delivered, and what is sent, has their numbers and their bytes.
func TestTunnelPackets(t *testing.T) {
	var l []api.Packet
	for _, n := range []int{0, 1, 14, 15} {
		l = append(l, normal(starts(n)), normal(to(n)), forward(origin(n)), forward(from(n)), forward(to(n)))
	}
	for _, n := range []int{0, 1, 30, 31} {
		l = append(l, both(port(n))...)
	}
	for _, n := range []int{1, 2, 7, 255, 1<<32 - 1, 1 << 32} {
		l = append(l, both(gen(n))...)
	}
	for _, n := range []int{0, 1, 1<<32 - 1, 1 << 32, 1<<40 - 1, 1 << 40} {
		l = append(l, both(id(n))...)
	}
	for _, n := range []int{14, 15, 60, 1513, 1514} {
		l = append(l, both(holds(filled(n)))...)
	}
	for _, p := range l {
		its := func(e *flow.Entry) { e.Port = p.Port }
		tunnelled(t, nil, p, dpath.Outcome{})
		tunnelled(t, table(t, entry(does(0, 2, 8, 7), its)), p, dpath.Outcome{})
		tunnelled(t, table(t, entry(does(1, 2, 8, 7), its)), p, came(p, 2, 7))
		want := dpath.Outcome{}
		if p.Kind == 1 {
			want = passed(p, 8, 7)
		}
		tunnelled(t, table(t, entry(does(2, 2, 8, 7), its)), p, want)
	}
}

// TestTunnelDelivers: P15.1: any PORT, GEN and TO, also such as no packet may have; the STAMP is the packet's own Gen.
func TestTunnelDelivers(t *testing.T) {
	for _, p := range append(both(), both(gen(1), port(31))...) {
		its := func(e *flow.Entry) { e.Port = p.Port }
		for _, n := range edges() {
			tunnelled(t, table(t, entry(does(1, n, 8, 7), its)), p, came(p, n, 7))
			tunnelled(t, table(t, entry(does(1, 2, 8, n), its)), p, came(p, 2, n))
			tunnelled(t, table(t, entry(does(1, 2, n, 7), its)), p, came(p, 2, 7))
			tunnelled(t, table(t, entry(does(1, n, n, n), its)), p, came(p, n, n))
		}
	}
}

// TestTunnelSends: P15.1, P15.2: to each chassis but its own, the packet's origin, and where it came from, with a GEN that a packet may have, also one below its own; its port stays, whatever the action's is.
func TestTunnelSends(t *testing.T) {
	for _, p := range []api.Packet{normal(), normal(starts(0), to(15)), normal(starts(15), to(0), gen(1<<32)), normal(gen(1))} {
		for _, n := range append(edges(), 5, 14, 17, 30, 33) {
			want := [2]dpath.Outcome{}
			if is(n, 0, 15) && n != p.To && n != p.Origin {
				want[0] = passed(p, n, 7)
			}
			if is(n, 1, 1<<32) {
				want[1] = passed(p, 8, n)
			}
			tunnelled(t, table(t, entry(does(2, 9, n, 7))), p, want[0])
			tunnelled(t, table(t, entry(does(2, 9, 8, n))), p, want[1])
			tunnelled(t, table(t, entry(does(2, n, 8, 7))), p, passed(p, 8, 7))
		}
		tunnelled(t, table(t, entry(does(2, 32, 16, 0))), p, dpath.Outcome{})
		tunnelled(t, table(t, entry(does(2, -1, p.From, 1<<32+1))), p, dpath.Outcome{})
	}
}

// TestForwardedStays: P15.1, P15.2: a packet that was forwarded isn't sent, to whichever chassis, with whichever PORT and GEN.
func TestForwardedStays(t *testing.T) {
	for _, p := range []api.Packet{forward(), forward(origin(0), from(15), to(1)), forward(gen(1)), forward(gen(1<<32), holds(filled(1514)))} {
		for _, n := range edges() {
			tunnelled(t, table(t, entry(does(2, 9, n, 7))), p, dpath.Outcome{})
			tunnelled(t, table(t, entry(does(2, 9, 8, n))), p, dpath.Outcome{})
			tunnelled(t, table(t, entry(does(2, n, 8, 7))), p, dpath.Outcome{})
			tunnelled(t, table(t, entry(does(2, n, n, n))), p, dpath.Outcome{})
		}
		for n := range 16 {
			tunnelled(t, table(t, entry(does(2, 9, n, p.Gen))), p, dpath.Outcome{})
		}
	}
}

// TestTunnelKey: P15.1: a packet is looked up by its PORT, its Gen and its ORIGIN, with IN 1 of Normal and 2 of Forward.
func TestTunnelKey(t *testing.T) {
	for _, x := range []struct {
		c               func(e *flow.Entry)
		normal, forward bool
	}{
		{func(e *flow.Entry) { e.Ins = 1 }, false, false},
		{func(e *flow.Entry) { e.Ins = 2 }, true, false},
		{func(e *flow.Entry) { e.Ins = 4 }, false, true},
		{func(e *flow.Entry) { e.Ins = 3 }, true, false},
		{func(e *flow.Entry) { e.Ins = 5 }, false, true},
		{func(e *flow.Entry) { e.Ins = 6 }, true, true},
		{func(e *flow.Entry) { e.From, e.Upto = 6, 6 }, true, true},
		{func(e *flow.Entry) { e.From = 7 }, false, false},
		{func(e *flow.Entry) { e.Upto = 5 }, false, false},
		{func(e *flow.Entry) { e.From, e.Upto = 0, 0 }, false, false},
		{func(e *flow.Entry) { e.From, e.Upto = 77, 77 }, false, false},
		{func(e *flow.Entry) { e.Not = 3 }, false, false}, // both are of origin 3; 5 is where they go, 4 where one came from
		{func(e *flow.Entry) { e.Not = 4 }, true, true},
		{func(e *flow.Entry) { e.Not = 5 }, true, true},
		{func(e *flow.Entry) { e.Not = -1 }, true, true},
		{func(e *flow.Entry) { e.Not = 0 }, true, true},
		{func(e *flow.Entry) { e.Port = 8 }, false, false},
		{func(e *flow.Entry) { e.Port = 0 }, false, false},
		{func(e *flow.Entry) { e.Port = 2 }, false, false}, // the action's
		{func(e *flow.Entry) { e.MAC = 0 }, true, true},
		{func(e *flow.Entry) { e.MAC = math.MaxUint64 }, true, true},
	} {
		s := table(t, entry(does(1, 2, 8, 7), x.c))
		for i, fits := range []bool{x.normal, x.forward} {
			p, want := both()[i], dpath.Outcome{}
			if fits {
				want = came(p, 2, 7)
			}
			tunnelled(t, s, p, want)
		}
	}
}

// TestTunnelMACs: P15.1: whatever addresses its bytes tell, also where a guest's frame with these bytes would be sent, or delivered.
func TestTunnelMACs(t *testing.T) {
	guests := func(mac uint64) func(e *flow.Entry) {
		return func(e *flow.Entry) { e.Ins, e.MAC, e.Prio = 1, mac, 5 }
	}
	for _, d := range []uint64{0, own, other, 1<<48 - 1} {
		for _, o := range []uint64{0, own, other, 1<<48 - 1} {
			b := plainBytes(frame(dst(d), src(o)))
			for _, p := range both(holds(b)) {
				tunnelled(t, table(t, entry(does(1, 2, 8, 7)), entry(does(2, 1, 1, 1), guests(d)), entry(does(1, 1, 1, 1), guests(o)), entry(does(1, 1, 1, 1), guests(0))), p, came(p, 2, 7))
				tunnelled(t, table(t, entry(does(1, 1, 1, 1), guests(d)), entry(does(1, 1, 1, 1), guests(0))), p, dpath.Outcome{})
				tunnelled(t, table(t, entry(does(1, 1, 1, 1), func(e *flow.Entry) { e.MAC, e.Port = d, 8 })), p, dpath.Outcome{})
			}
		}
	}
}

// TestTunnelByRank: P15.1: what becomes of it is told by the entry that is looked up, also where a lesser one would do another thing.
func TestTunnelByRank(t *testing.T) {
	p, first := normal(), func(e *flow.Entry) { e.Prio = 1 }
	drop, give, send := entry(does(0, 1, 2, 3)), entry(does(1, 9, 8, 7)), entry(does(2, 4, 6, 6))
	tunnelled(t, table(t, drop, give, send), p, dpath.Outcome{})
	tunnelled(t, table(t, give, send, drop), p, came(p, 9, 7))
	tunnelled(t, table(t, send, drop, give), p, passed(p, 6, 6))
	tunnelled(t, table(t, send, give, entry(does(0, 0, 0, 0), first)), p, dpath.Outcome{})
	tunnelled(t, table(t, drop, send, entry(does(1, 2, 2, 2), first)), p, came(p, 2, 2))
	tunnelled(t, table(t, drop, give, entry(does(2, 2, 2, 2), first)), p, passed(p, 2, 2))
	tunnelled(t, table(t, give, send, entry(does(3, 9, 8, 7), first)), p, dpath.Outcome{})
	tunnelled(t, table(t, give, entry(does(2, 9, 3, 7), first)), p, dpath.Outcome{}) // what cannot be sent is not looked up again
	tunnelled(t, table(t, give, entry(does(2, 9, 8, 7), first)), forward(), dpath.Outcome{})
}
