package dpath_test

import (
	"math"
	"testing"

	"rutter/api"
	"rutter/dpath"
	"rutter/flow"
)

// own is the address of port 9, to which ordinary frames go, other one that sends them.
const (
	own   = 1<<41 + 9
	other = 1<<41 + 4
)

// edges are numbers, ordinary ones, and the least and the greatest.
func edges() []int {
	return []int{math.MinInt, math.MinInt + 1, -1 << 40, -1 << 32, -256, -2, -1, 0, 1, 2, 3, 4, 9, 15, 16, 30, 31, 32, 255, 256, 1<<32 - 1, 1 << 32, 1<<32 + 1, 1 << 40, 1<<40 + 1, math.MaxInt - 1, math.MaxInt}
}

// filled are n bytes, which are the same in each run.
func filled(n int) []byte {
	b := make([]byte, n)
	for i := range b {
		b[i] = byte(11 + i*7 + i/256)
	}
	return b
}

// turn turns something of a guest's frame.
type turn func(f *api.Frame)

func dst(n uint64) turn  { return func(f *api.Frame) { f.Dst = n } }
func src(n uint64) turn  { return func(f *api.Frame) { f.Src = n } }
func typed(n int) turn   { return func(f *api.Frame) { f.Type = n } }
func load(b []byte) turn { return func(f *api.Frame) { f.Load = b } }

// frame is an ordinary guest's frame, with that turned.
func frame(l ...turn) api.Frame {
	f := api.Frame{Dst: own, Src: other, Type: 0x0806, Load: []byte("hi")}
	for _, t := range l {
		t(&f)
	}
	return f
}

// change changes something of a packet.
type change func(p *api.Packet)

func kind(n api.Kind) change { return func(p *api.Packet) { p.Kind = n } }
func origin(n int) change    { return func(p *api.Packet) { p.Origin = n } }
func from(n int) change      { return func(p *api.Packet) { p.From = n } }
func to(n int) change        { return func(p *api.Packet) { p.To = n } }
func port(n int) change      { return func(p *api.Packet) { p.Port = n } }
func gen(n int) change       { return func(p *api.Packet) { p.Gen = n } }
func id(n int) change        { return func(p *api.Packet) { p.ID = n } }
func holds(b []byte) change  { return func(p *api.Packet) { p.Frame = b } }

// starts changes a packet of Normal, so that it starts there.
func starts(n int) change { return func(p *api.Packet) { p.Origin, p.From = n, n } }

// normal is an ordinary packet of Normal, that goes from 3 to 5, with that changed.
func normal(l ...change) api.Packet {
	p := api.Packet{Kind: 1, Origin: 3, From: 3, To: 5, Port: 9, Gen: 6, ID: 77, Frame: filled(20)}
	for _, c := range l {
		c(&p)
	}
	return p
}

// forward is an ordinary packet of Forward, that goes from 3 over 4 to 5, with that changed.
func forward(l ...change) api.Packet {
	return normal(append([]change{kind(2), from(4)}, l...)...)
}

// entry is of all frames to the address own and of port 9, with that changed.
func entry(a flow.Action, l ...func(e *flow.Entry)) flow.Entry {
	e := flow.Entry{Ins: 7, MAC: own, Port: 9, From: math.MinInt, Upto: math.MaxInt, Not: math.MinInt, Action: a}
	for _, c := range l {
		c(&e)
	}
	return e
}

// does is an action.
func does(kind, port, to, gen int) flow.Action {
	return flow.Action{Kind: kind, Port: port, To: to, Gen: gen}
}

// table is one with entries.
func table(t *testing.T, l ...flow.Entry) *flow.Table {
	t.Helper()
	s, e := flow.New(l...)
	if e != api.OK {
		t.Fatalf("New of %d: %d", len(l), e)
	}
	return s
}

// plainBytes tells a frame's bytes anew.
func plainBytes(f api.Frame) []byte {
	var b []byte
	for _, mac := range []uint64{f.Dst, f.Src} {
		for i := 40; i >= 0; i -= 8 {
			b = append(b, byte(mac>>i))
		}
	}
	b = append(b, byte(f.Type/256), byte(f.Type%256))
	return append(b, f.Load...)
}

// is tells whether n is from least to most.
func is(n, least, most int) bool { return least <= n && n <= most }

// frameMayBe tells anew whether a frame may be.
func frameMayBe(f api.Frame) bool {
	return f.Dst < 1<<48 && f.Src < 1<<48 && is(f.Type, 0, 65535) && len(f.Load) <= 1500
}

// mayBe tells anew whether a packet may be.
func mayBe(p api.Packet) bool {
	if !is(p.Origin, 0, 15) || !is(p.From, 0, 15) || !is(p.To, 0, 15) || p.From == p.To {
		return false
	}
	if !is(p.Port, 0, 31) || !is(p.Gen, 1, 4294967296) || !is(p.ID, 0, 1099511627776) || !is(len(p.Frame), 14, 1514) {
		return false
	}
	return p.Kind == 1 && p.From == p.Origin || p.Kind == 2 && p.From != p.Origin && p.To != p.Origin
}

// sent is the outcome of what is sent as a packet, if it may be; else it is dropped.
func sent(p api.Packet) dpath.Outcome {
	if !mayBe(p) {
		return dpath.Outcome{}
	}
	return dpath.Outcome{Kind: 2, Packet: p}
}

// plainGuest tells anew what becomes of a guest's frame.
func plainGuest(s *flow.Table, chassis int, f api.Frame, id int) (dpath.Outcome, api.Errno) {
	if !frameMayBe(f) || !is(chassis, 0, 15) || !is(id, 0, 1099511627776) {
		return dpath.Outcome{}, api.ErrArg
	}
	a, ok := s.Look(flow.Key{In: 0, MAC: f.Dst, Port: 0, Stamp: 0, Origin: -1})
	if ok && a.Kind == 1 {
		return dpath.Outcome{Kind: 1, Port: a.Port, Gen: a.Gen, Stamp: a.Gen, Frame: plainBytes(f)}, api.OK
	}
	if ok && a.Kind == 2 {
		return sent(api.Packet{Kind: 1, Origin: chassis, From: chassis, To: a.To, Port: a.Port, Gen: a.Gen, ID: id, Frame: plainBytes(f)}), api.OK
	}
	return dpath.Outcome{}, api.OK
}

// plainTunnel tells anew what becomes of a packet.
func plainTunnel(s *flow.Table, chassis int, p api.Packet) (dpath.Outcome, api.Errno) {
	if !mayBe(p) || chassis != p.To {
		return dpath.Outcome{}, api.ErrArg
	}
	k := flow.Key{In: 1, Port: p.Port, Stamp: p.Gen, Origin: p.Origin}
	if p.Kind == 2 {
		k.In = 2
	}
	a, ok := s.Look(k)
	if ok && a.Kind == 1 {
		return dpath.Outcome{Kind: 1, Port: a.Port, Gen: a.Gen, Stamp: p.Gen, Frame: p.Frame}, api.OK
	}
	if ok && a.Kind == 2 && p.Kind == 1 {
		return sent(api.Packet{Kind: 2, Origin: p.Origin, From: p.To, To: a.To, Port: p.Port, Gen: a.Gen, ID: p.ID, Frame: p.Frame}), api.OK
	}
	return dpath.Outcome{}, api.OK
}

// samePacket holds two packets against each other without the program.
func samePacket(a, b api.Packet) bool {
	numbers := func(p api.Packet) [7]int {
		return [...]int{int(p.Kind), p.Origin, p.From, p.To, p.Port, p.Gen, p.ID}
	}
	return numbers(a) == numbers(b) && string(a.Frame) == string(b.Frame)
}

// same holds two outcomes against each other, all that stands in them.
func same(a, b dpath.Outcome) bool {
	numbers := func(o dpath.Outcome) [4]int { return [...]int{o.Kind, o.Port, o.Gen, o.Stamp} }
	return numbers(a) == numbers(b) && string(a.Frame) == string(b.Frame) && samePacket(a.Packet, b.Packet)
}

// one checks that an outcome is of one thing alone: all that stands in it is of its kind.
func one(t *testing.T, o dpath.Outcome) {
	t.Helper()
	bare := dpath.Outcome{Kind: o.Kind}
	switch o.Kind {
	case 0:
	case 1:
		bare.Port, bare.Gen, bare.Stamp, bare.Frame = o.Port, o.Gen, o.Stamp, o.Frame
	case 2:
		bare.Packet = o.Packet
	default:
		t.Errorf("kind %d", o.Kind)
	}
	if !same(o, bare) {
		t.Errorf("more than one thing: %+v", o)
	}
}

// guest checks what becomes of a guest's frame.
func guest(t *testing.T, s *flow.Table, chassis int, f api.Frame, id int, want dpath.Outcome) {
	t.Helper()
	o, e := dpath.Guest(s, chassis, f, id)
	if !same(o, want) || e != api.OK {
		t.Errorf("%+v, %d at %d: %+v, %d; want %+v", f, id, chassis, o, e, want)
	}
	one(t, o)
}

// tunnelled checks what becomes of a packet at the chassis to which it goes.
func tunnelled(t *testing.T, s *flow.Table, p api.Packet, want dpath.Outcome) {
	t.Helper()
	o, e := dpath.Tunnel(s, p.To, p)
	if !same(o, want) || e != api.OK {
		t.Errorf("%+v: %+v, %d; want %+v", p, o, e, want)
	}
	one(t, o)
}

// noGuest checks that a guest's frame is refused, whatever the table is.
func noGuest(t *testing.T, chassis int, f api.Frame, id int) {
	t.Helper()
	for _, s := range anyTables(t) {
		if o, e := dpath.Guest(s, chassis, f, id); !same(o, dpath.Outcome{}) || e != api.ErrArg {
			t.Errorf("%+v, %d at %d: %+v, %d; want an error", f, id, chassis, o, e)
		}
	}
}

// noPacket checks that a packet is refused, whatever the table is.
func noPacket(t *testing.T, chassis int, p api.Packet) {
	t.Helper()
	for _, s := range anyTables(t) {
		if o, e := dpath.Tunnel(s, chassis, p); !same(o, dpath.Outcome{}) || e != api.ErrArg {
			t.Errorf("%+v at %d: %+v, %d; want an error", p, chassis, o, e)
		}
	}
}

// anyTables are none, an empty one, and ones that drop, deliver and send what is ordinary.
func anyTables(t *testing.T) []*flow.Table {
	t.Helper()
	l := []*flow.Table{nil, table(t)}
	for k := range 3 {
		l = append(l, table(t, entry(does(k, 9, 8, 7))))
	}
	return l
}
