package dpath_test

import (
	"math"
	"testing"

	"rutter/api"
	"rutter/bind"
	"rutter/dpath"
	"rutter/ether"
	"rutter/flow"
)

// chance tells numbers that look like any, always the same.
type chance uint64

func (c *chance) below(n int) int {
	*c = *c*6364136223846793005 + 1442695040888963407
	return int(uint64(*c) >> 33 % uint64(n))
}

// number is one from 0 on, of n, seldom one of the edges.
func (c *chance) number(n int) int {
	if c.below(30) == 0 {
		return edges()[c.below(len(edges()))]
	}
	return c.below(n)
}

// standing are rows of all ports that may be, of which any are left out, with their usual addresses; they are at the first n chassis.
func (c *chance) standing(n int) []api.Row {
	var l []api.Row
	for p := range 32 {
		if c.below(6) == 0 {
			continue
		}
		a := c.below(n)
		b := (a + 1 + c.below(n-1)) % n
		r := api.Row{Port: p, MAC: ether.MAC(p), Owner: a, Target: -1, Old: -1, Gen: 1 + c.below(4), Ver: 1 + c.below(9)}
		r.Phase = [...]api.Phase{0, 1, 2, 2, 2, 2, 3}[c.below(7)]
		switch r.Phase {
		case api.Moving:
			r.Target = b
		case api.Moved:
			r.Old = b
		case api.Gone:
			r.Owner = -1
		}
		l = append(l, r)
	}
	return l
}

// mac is an address of few, seldom any.
func (c *chance) mac() uint64 {
	if c.below(30) == 0 {
		return uint64(c.number(1)) << c.below(50)
	}
	return own + uint64(c.below(3))
}

// bytes are a frame's, seldom too few, or too many.
func (c *chance) bytes() []byte {
	return filled([...]int{14, 15, 20, 60, 1514, 14, 16, 17, 18, 19, 21, 22, 13, 1515}[c.below(14)])
}

// packet is one that most often may be, with that changed.
func (c *chance) packet(l ...change) api.Packet {
	p := api.Packet{Kind: api.Kind(1 + c.number(2)), Origin: c.number(16), From: c.number(16), To: c.number(16), Port: c.number(32), Gen: 1 + c.number(9), ID: c.number(1 << 20), Frame: c.bytes()}
	if p.Kind == 1 {
		p.From = p.Origin
	}
	for _, x := range l {
		x(&p)
	}
	return p
}

// frame is one that most often may be.
func (c *chance) frame() api.Frame {
	return api.Frame{Dst: c.mac(), Src: c.mac(), Type: c.number(65536), Load: filled([...]int{0, 1, 2, 46, 100, 1499, 1500, 1501}[c.below(8)])}
}

// entries are any, of few addresses and ports.
func (c *chance) entries() []flow.Entry {
	var l []flow.Entry
	for range c.below(9) {
		e := flow.Entry{Prio: c.number(3), Ins: c.number(8), MAC: c.mac(), Port: c.number(4), From: c.number(4), Upto: c.number(9), Not: c.number(16), Action: does(c.number(3), c.number(32), c.number(16), c.number(9))}
		if c.below(2) == 0 {
			e.From, e.Upto = math.MinInt, math.MaxInt
		}
		l = append(l, e)
	}
	return l
}

// anyGuest checks what becomes of any frame, held against what is told anew.
func anyGuest(t *testing.T, s *flow.Table, chassis int, f api.Frame, id int) dpath.Outcome {
	t.Helper()
	o, e := dpath.Guest(s, chassis, f, id)
	if want, too := plainGuest(s, chassis, f, id); !same(o, want) || e != too {
		t.Fatalf("%+v, %d at %d: %+v, %d; want %+v, %d", f, id, chassis, o, e, want, too)
	}
	onward(t, chassis, api.Packet{}, plainBytes(f), o)
	return o
}

// anyTunnel checks what becomes of any packet, held against what is told anew.
func anyTunnel(t *testing.T, s *flow.Table, chassis int, p api.Packet) dpath.Outcome {
	t.Helper()
	o, e := dpath.Tunnel(s, chassis, p)
	if want, too := plainTunnel(s, chassis, p); !same(o, want) || e != too {
		t.Fatalf("%+v at %d: %+v, %d; want %+v, %d", p, chassis, o, e, want, too)
	}
	onward(t, chassis, p, p.Frame, o)
	return o
}

// TestAnyTables: P15.1, P15.2, P1: any frames and packets at any chassis, by any tables, of rows or not; what is sent is looked at again.
func TestAnyTables(t *testing.T) {
	c, seen := chance(7), map[[2]int]int{}
	for range 10000 {
		s := table(t, c.entries()...)
		o := anyGuest(t, s, c.number(16), c.frame(), c.number(1<<20))
		seen[[2]int{0, o.Kind}]++
		for range 3 {
			p := c.packet(port(c.number(4)))
			if o.Kind == 2 {
				p = o.Packet
			}
			chassis := p.To
			if c.below(30) == 0 {
				chassis = c.number(16)
			}
			o = anyTunnel(t, s, chassis, p)
			if chassis == p.To && mayBe(p) {
				seen[[2]int{int(p.Kind), o.Kind}]++
			}
		}
	}
	for in := range 3 {
		for k := range 3 {
			if n := seen[[2]int{in, k}]; in < 2 || k < 2 {
				if n < 300 {
					t.Errorf("IN %d, kind %d: %d", in, k, n)
				}
			} else if n != 0 {
				t.Errorf("forwarded, and sent: %d", n)
			}
		}
	}
}

// FuzzGuest: P15.1, P15.2, P1: any frame and any action at any chassis; go test runs the seeds alone.
func FuzzGuest(f *testing.F) {
	for _, n := range edges() {
		f.Add(uint64(own), uint64(other), 0x0800, []byte("hi"), 3, 77, 2, 9, n, 7)
		f.Add(uint64(n), uint64(own), 0, []byte{}, 15, n, 1, n, n, n)
		f.Add(uint64(own), uint64(n), n, filled(1500), n, 1<<40, n, 31, 0, 1<<32)
	}
	f.Add(uint64(own), uint64(own), 65535, filled(1501), 0, 0, 2, 0, 1, 1)
	f.Fuzz(func(t *testing.T, d, o uint64, ty int, b []byte, chassis, id, k, p, to, g int) {
		x := api.Frame{Dst: d, Src: o, Type: ty, Load: b}
		at := func(e *flow.Entry) { e.MAC = d }
		anyGuest(t, table(t, entry(does(k, p, to, g), at)), chassis, x, id)
		anyGuest(t, table(t, entry(does(k, p, to, g))), chassis, x, id)
		anyGuest(t, table(t, entry(does(2, 9, to, 7), at), entry(does(1, p, to, g))), chassis, x, id)
		anyGuest(t, nil, chassis, x, id)
	})
}

// FuzzTunnel: P15.1, P15.2, P1: any packet and any action at any chassis, and any row's table; go test runs the seeds alone.
func FuzzTunnel(f *testing.F) {
	for _, n := range edges() {
		f.Add(5, 1, 3, 3, 5, 9, 6, 77, filled(20), 2, 9, n, 7)
		f.Add(5, 2, 3, 4, 5, 9, n, n, filled(14), n, n, 8, n)
		f.Add(n, n, n, n, n, n, n, n, filled(1514), 1, n, n, n)
		f.Add(n, 1, 3, 3, n, 31, 1<<32, 1<<40, filled(1515), 2, 0, 0, 1)
	}
	f.Fuzz(func(t *testing.T, chassis, ki, o, fr, at, po, g, id int, b []byte, k, p, to, ag int) {
		x := api.Packet{Kind: api.Kind(ki), Origin: o, From: fr, To: at, Port: po, Gen: g, ID: id, Frame: b}
		its := func(e *flow.Entry) { e.Port = po }
		anyTunnel(t, table(t, entry(does(k, p, to, ag), its)), chassis, x)
		anyTunnel(t, table(t, entry(does(k, p, to, ag), its)), at, x)
		anyTunnel(t, table(t, entry(does(k, p, to, ag)), entry(does(2, p, to, 7), its)), at, x)
		anyTunnel(t, nil, chassis, x)
		r := api.Row{Port: po, MAC: own, Owner: to, Target: -1, Old: at, Gen: ag, Phase: api.Moved, Ver: 1}
		s, _ := bind.Table(at, r)
		stamped(t, anyTunnel(t, s, at, x))
	})
}

// TestSameAnswers: P2: the same calls answer the same, whatever is called between.
func TestSameAnswers(t *testing.T) {
	c, between := chance(8), chance(9)
	for range 1000 {
		s, f, chassis, id, p := table(t, c.entries()...), c.frame(), c.number(16), c.number(1<<20), c.packet()
		a, ea := dpath.Guest(s, chassis, f, id)
		b, eb := dpath.Tunnel(s, p.To, p)
		dpath.Guest(table(t, between.entries()...), between.number(16), between.frame(), between.number(1<<20))
		q := between.packet()
		dpath.Tunnel(s, q.To, q)
		if x, e := dpath.Guest(s, chassis, f, id); !same(a, x) || e != ea {
			t.Errorf("%+v, then %+v", a, x)
		}
		if x, e := dpath.Tunnel(s, p.To, p); !same(b, x) || e != eb {
			t.Errorf("%+v, then %+v", b, x)
		}
	}
}
