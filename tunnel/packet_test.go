package tunnel_test

import (
	"bytes"
	"math"
	"testing"

	"rutter/api"
	"rutter/tunnel"
)

// frame is n bytes, which are the same in each run.
func frame(n int) []byte {
	b := make([]byte, n)
	for i := range b {
		b[i] = byte(7 + i*13 + i/256)
	}
	return b
}

// change changes a packet.
type change func(p *api.Packet)

func kind(n api.Kind) change { return func(p *api.Packet) { p.Kind = n } }
func origin(n int) change    { return func(p *api.Packet) { p.Origin = n } }
func from(n int) change      { return func(p *api.Packet) { p.From = n } }
func to(n int) change        { return func(p *api.Packet) { p.To = n } }
func port(n int) change      { return func(p *api.Packet) { p.Port = n } }
func gen(n int) change       { return func(p *api.Packet) { p.Gen = n } }
func id(n int) change        { return func(p *api.Packet) { p.ID = n } }
func holds(b []byte) change  { return func(p *api.Packet) { p.Frame = b } }
func sized(n int) change     { return holds(frame(n)) }

// starts changes a packet of Normal, so that it starts there.
func starts(n int) change { return func(p *api.Packet) { p.Origin, p.From = n, n } }

func changed(p api.Packet, l []change) api.Packet {
	for _, c := range l {
		c(&p)
	}
	return p
}

// normal is an ordinary packet of Normal, with that changed.
func normal(l ...change) api.Packet {
	return changed(api.Packet{Kind: 1, Origin: 3, From: 3, To: 5, Port: 9, Gen: 0x02030405, ID: 0x0a0b0c0d0e, Frame: frame(20)}, l)
}

// forward is an ordinary packet of Forward, with that changed.
func forward(l ...change) api.Packet {
	return changed(api.Packet{Kind: 2, Origin: 3, From: 5, To: 8, Port: 9, Gen: 0x02030405, ID: 0x0a0b0c0d0e, Frame: frame(20)}, l)
}

// is tells whether n is from least to most.
func is(n, least, most int) bool { return least <= n && n <= most }

// mayBe is what the chapter says of a packet, told anew.
func mayBe(p api.Packet) bool {
	if p.Kind != 1 && p.Kind != 2 {
		return false
	}
	if !is(p.Origin, 0, 15) || !is(p.From, 0, 15) || !is(p.To, 0, 15) || p.From == p.To {
		return false
	}
	if !is(p.Port, 0, 31) || !is(p.Gen, 1, 4294967296) || !is(p.ID, 0, 1099511627776) || !is(len(p.Frame), 14, 1514) {
		return false
	}
	if p.Kind == 1 {
		return p.From == p.Origin
	}
	return p.From != p.Origin && p.To != p.Origin
}

// same holds two packets against each other without the program.
func same(a, b api.Packet) bool {
	numbers := func(p api.Packet) [7]int {
		return [...]int{int(p.Kind), p.Origin, p.From, p.To, p.Port, p.Gen, p.ID}
	}
	return numbers(a) == numbers(b) && string(a.Frame) == string(b.Frame)
}

// both are ordinary packets of Normal and of Forward, each with one thing changed.
func both(c ...change) []api.Packet {
	var l []api.Packet
	for _, x := range c {
		l = append(l, normal(x), forward(x))
	}
	return l
}

// rightPackets are packets that may be: ordinary ones, and the edges of each field.
func rightPackets() []api.Packet {
	l := []api.Packet{normal(), forward()}
	for _, n := range []int{0, 1, 2, 14, 15} {
		l = append(l, normal(starts(n)), normal(to(n)), forward(origin(n)), forward(from(n)), forward(to(n)))
	}
	for _, n := range []int{0, 1, 15, 16, 30, 31} {
		l = append(l, both(port(n))...)
	}
	for _, n := range []int{1, 2, 255, 256, 65536, 1<<31 - 1, 1 << 31, 1<<32 - 1, 1 << 32} {
		l = append(l, both(gen(n))...)
	}
	for _, n := range []int{0, 1, 255, 256, 1<<32 - 1, 1 << 32, 1<<32 + 1, 1<<40 - 1, 1 << 40} {
		l = append(l, both(id(n))...)
	}
	for _, n := range []int{14, 15, 60, 255, 256, 1513, 1514} {
		l = append(l, both(sized(n))...)
	}
	least := api.Packet{Kind: 1, To: 1, Gen: 1, Frame: make([]byte, 14)}
	most := api.Packet{Kind: 2, Origin: 13, From: 14, To: 15, Port: 31, Gen: 1 << 32, ID: 1 << 40, Frame: bytes.Repeat([]byte{255}, 1514)}
	return append(l, least, most)
}

// beyond are numbers far out of what any field may be; some have a right one in their lowest bytes.
func beyond() []int {
	return []int{math.MinInt64, math.MinInt64 + 3, -1 << 32, -256, -253, 1<<40 + 1, 1<<40 + 5, 1 << 48, 1<<48 + 3, 1 << 56, math.MaxInt64}
}

// wrongPackets are packets that may not be, each by one thing, and by more of them.
func wrongPackets() []api.Packet {
	l := []api.Packet{{}, {Frame: frame(20)}}
	for _, n := range append(beyond(), -2, -1, 0, 3, 4, 255, 256, 257, 258, 1<<32+1, 1<<32+2) {
		l = append(l, both(kind(api.Kind(n)))...)
	}
	for _, n := range append(beyond(), -2, -1, 16, 17, 255, 256, 256+3, 256+5, 1<<32+3) {
		l = append(l, normal(starts(n)))
		l = append(l, both(origin(n), from(n), to(n))...)
	}
	for _, n := range append(beyond(), -2, -1, 32, 33, 255, 256, 256+9, 1<<32+9) {
		l = append(l, both(port(n))...)
	}
	for _, n := range append(beyond(), -1, 0, 1<<32+1, 1<<32+2, 1<<33) {
		l = append(l, both(gen(n))...)
	}
	for _, n := range append(beyond(), -2, -1, 1<<41, 1<<48-1) {
		l = append(l, both(id(n))...)
	}
	for _, n := range []int{0, 1, 13, 1515, 1516, 1533, 65535, 65536, 65536 + 20, 1 << 20} {
		l = append(l, both(sized(n))...)
	}
	l = append(l, both(holds(nil), holds([]byte{}))...)
	l = append(l, normal(to(3)), normal(from(4)), normal(from(5)), normal(origin(4)), normal(origin(5)), normal(starts(5)))
	l = append(l, forward(from(8)), forward(to(5)), forward(from(3)), forward(to(3)), forward(origin(5)), forward(origin(8)))
	l = append(l, normal(kind(2)), forward(kind(1)), forward(origin(5), kind(1), to(5)))
	return append(l, normal(kind(0), origin(-1), from(16), to(16), port(32), gen(0), id(-1), sized(13)))
}

// TestRight: P5.1: which packets may be, at each edge.
func TestRight(t *testing.T) {
	for i, p := range rightPackets() {
		if !mayBe(p) {
			t.Fatalf("right packet %d: the test is wrong", i)
		}
		if !tunnel.Right(p) {
			t.Errorf("right packet %d: %+v", i, p)
		}
	}
	for i, p := range wrongPackets() {
		if mayBe(p) {
			t.Fatalf("wrong packet %d: the test is wrong", i)
		}
		if tunnel.Right(p) {
			t.Errorf("wrong packet %d: %+v", i, p)
		}
	}
}

// TestRightWays: P5.1: each kind, from each chassis to each one.
func TestRightWays(t *testing.T) {
	for k := api.Kind(-1); k <= 4; k++ {
		for n := range 20 * 20 * 20 {
			p := normal(kind(k), origin(n%20-2), from(n/20%20-2), to(n/400-2))
			if got := tunnel.Right(p); got != mayBe(p) {
				t.Errorf("%d %d %d %d: %t", p.Kind, p.Origin, p.From, p.To, got)
			}
		}
	}
}

// TestRightEdges: P5.1: all edges with one another.
func TestRightEdges(t *testing.T) {
	frames := [][]byte{nil, {}, frame(13), frame(14), frame(1514), frame(1515)}
	for _, n := range []int{-1, 0, 31, 32} {
		for _, g := range []int{0, 1, 1 << 32, 1<<32 + 1} {
			for _, i := range []int{-1, 0, 1 << 40, 1<<40 + 1} {
				for _, b := range frames {
					for _, p := range both(func(p *api.Packet) { p.Port, p.Gen, p.ID, p.Frame = n, g, i, b }) {
						if got := tunnel.Right(p); got != mayBe(p) {
							t.Errorf("%d %d %d %d, %d bytes: %t", p.Kind, n, g, i, len(b), got)
						}
					}
				}
			}
		}
	}
}

// TestRightLengths: P5.1: a frame's length counts, whatever its bytes are, not the room behind it.
func TestRightLengths(t *testing.T) {
	room := make([]byte, 3000)
	for n := range room {
		for _, p := range both(holds(room[:n]), holds(room[:n:n])) {
			if got := tunnel.Right(p); got != is(n, 14, 1514) {
				t.Errorf("%d: %d bytes: %t", p.Kind, n, got)
			}
		}
	}
}

// TestSame: P5.1: two have the same, or differ in one field alone, the one way round and the other.
func TestSame(t *testing.T) {
	check := func(a, b api.Packet, want bool) {
		t.Helper()
		if tunnel.Same(a, b) != want || tunnel.Same(b, a) != want {
			t.Errorf("%+v, %+v: not %t", a, b, want)
		}
	}
	check(api.Packet{}, api.Packet{}, true)
	check(normal(), normal(), true)
	check(forward(), forward(), true)
	check(normal(), forward(), false)
	check(normal(), api.Packet{}, false)
	one := []change{kind(2), kind(0), origin(4), origin(-1), from(4), from(5), to(6), to(3), port(10), port(-1), gen(1), gen(0), id(1), id(-1), sized(21), sized(19), holds(nil)}
	for i, c := range one {
		check(normal(), normal(c), false)
		check(normal(c), normal(c), true)
		for _, d := range one[:i] {
			check(normal(c), normal(d), false)
		}
	}
	check(normal(from(6), to(7)), normal(from(7), to(6)), false)
	check(normal(origin(6), from(7)), normal(origin(7), from(6)), false)
	check(normal(gen(6), id(7)), normal(gen(7), id(6)), false)
	check(normal(port(6), gen(7)), normal(port(7), gen(6)), false)
}

// TestSameBits: P5.1: each bit of each number counts; nothing wraps round.
func TestSameBits(t *testing.T) {
	for k := range 64 {
		for i, c := range []change{
			func(p *api.Packet) { p.Kind ^= 1 << k },
			func(p *api.Packet) { p.Origin ^= 1 << k },
			func(p *api.Packet) { p.From ^= 1 << k },
			func(p *api.Packet) { p.To ^= 1 << k },
			func(p *api.Packet) { p.Port ^= 1 << k },
			func(p *api.Packet) { p.Gen ^= 1 << k },
			func(p *api.Packet) { p.ID ^= 1 << k },
		} {
			if a, b := normal(), normal(c); tunnel.Same(a, b) || tunnel.Same(b, a) || !tunnel.Same(b, b) {
				t.Errorf("field %d: bit %d", i, k)
			}
		}
	}
}

// TestSameFrames: P5.1: each byte of the frame counts; what lies behind its length doesn't.
func TestSameFrames(t *testing.T) {
	for _, n := range []int{1, 14, 1514, 1515} {
		for k := range n {
			b := frame(n)
			b[k]++
			if tunnel.Same(normal(sized(n)), normal(holds(b))) || tunnel.Same(normal(holds(b)), normal(sized(n))) {
				t.Errorf("%d bytes: byte %d", n, k)
			}
		}
		if tunnel.Same(normal(sized(n)), normal(sized(n+1))) || tunnel.Same(normal(sized(n+1)), normal(sized(n))) {
			t.Errorf("%d bytes, and one more", n)
		}
		if !tunnel.Same(normal(sized(n)), normal(holds(frame(n + 1)[:n]))) {
			t.Errorf("%d bytes, and room", n)
		}
	}
	if !tunnel.Same(normal(holds(nil)), normal(holds([]byte{}))) || !tunnel.Same(normal(holds([]byte{})), normal(holds(nil))) {
		t.Error("nothing isn't the same as nothing")
	}
	if tunnel.Same(normal(holds(nil)), normal(holds([]byte{0}))) {
		t.Error("nothing is the same as a byte")
	}
}

// TestSameAll: P5.1: of all that may be, and that may not be, each is the same as itself, and as those alone that have the same.
func TestSameAll(t *testing.T) {
	l := append(rightPackets(), wrongPackets()...)
	for i, a := range l {
		for j, b := range l {
			if got := tunnel.Same(a, b); got != same(a, b) {
				t.Errorf("%d, %d: %t", i, j, got)
			}
		}
	}
}
