package tunnel_test

import (
	"bytes"
	"encoding/binary"
	"testing"

	"rutter/api"
	"rutter/tunnel"
)

// chance tells numbers that look like chance, the same in each run.
type chance uint64

func (c *chance) below(n int) int {
	*c = *c*6364136223846793005 + 1442695040888963407
	return int(uint64(*c) >> 33 % uint64(n))
}

func (c *chance) bytes(n int) []byte {
	b := make([]byte, n)
	for i := range b {
		b[i] = byte(c.below(256))
	}
	return b
}

// packet is one that may be.
func (c *chance) packet() api.Packet {
	a := c.below(16)
	b := (a + 1 + c.below(15)) % 16
	p := api.Packet{Kind: 1, Origin: a, From: a, To: b, Port: c.below(32), Gen: 1 + c.below(1<<16)<<16 + c.below(1<<16)}
	p.ID, p.Frame = c.below(1<<20)<<20+c.below(1<<20), c.bytes(14+c.below(40))
	if c.below(30) == 0 {
		p.Frame = c.bytes(14 + c.below(1501))
	}
	if c.below(2) == 0 {
		p.Kind = 2
		for p.From = c.below(16); p.From == a || p.From == b; {
			p.From = c.below(16)
		}
	}
	return p
}

// TestThereAndBack: P5.2: a packet is decoded from its bytes.
func TestThereAndBack(t *testing.T) {
	c := chance(1)
	for i := range 5000 {
		p := c.packet()
		b, e := tunnel.Encode(p)
		if e != api.OK || !bytes.Equal(b, plain(p)) {
			t.Fatalf("%d: %+v: %q, %d", i, p, b, e)
		}
		if q, e := tunnel.Decode(b); e != api.OK || !same(p, q) || !tunnel.Same(p, q) {
			t.Fatalf("%d: %+v: %+v, %d", i, p, q, e)
		}
	}
}

// TestThereAndBackForwarded: P5.2: so is one that was forwarded, and one that is forwarded where it came.
func TestThereAndBackForwarded(t *testing.T) {
	c := chance(2)
	for i := range 5000 {
		p, to, gen := c.packet(), c.below(16), 1+c.below(1<<31)
		q, e := tunnel.Again(p, to, gen)
		came, f := tunnel.Decode(plain(p))
		r, g := tunnel.Again(came, to, gen)
		if f != api.OK || e != g || !same(q, r) {
			t.Fatalf("%d: %+v: %+v %d, %d, %+v %d", i, p, q, e, f, r, g)
		}
		if e == api.OK {
			encodes(t, q, plain(q))
			decodes(t, plain(q), q)
		}
	}
}

// expected is the packet of bytes, told anew, and whether there is one.
func expected(b []byte) (api.Packet, bool) {
	if len(b) < 19 || b[0] != 1 || int(binary.BigEndian.Uint16(b[17:])) != len(b)-19 {
		return api.Packet{}, false
	}
	p := api.Packet{Kind: api.Kind(b[1]), Origin: int(b[2]), From: int(b[3]), To: int(b[4]), Port: int(b[5])}
	p.Gen = int(binary.BigEndian.Uint64(append(make([]byte, 3), b[6:11]...)))
	p.ID = int(binary.BigEndian.Uint64(append(make([]byte, 2), b[11:17]...)))
	p.Frame = b[19:]
	return p, mayBe(p)
}

// backAgain checks that what is decoded has just the bytes it is of, and that all other bytes are none's.
func backAgain(t *testing.T, b []byte) {
	t.Helper()
	want, ok := expected(b)
	if !ok {
		noPacket(t, b)
		return
	}
	p, e := tunnel.Decode(b)
	if e != api.OK || !same(p, want) || !tunnel.Right(p) {
		t.Fatalf("%q: %+v, %d", b, p, e)
	}
	encodes(t, p, b)
}

// TestAnyBytes: P5.1, P5.2, and P1: whatever the bytes, from those that are near a packet's.
func TestAnyBytes(t *testing.T) {
	c := chance(3)
	for range 5000 {
		b := plain(c.packet())
		backAgain(t, b)
		backAgain(t, b[:c.below(len(b))])
		backAgain(t, append(bytes.Clone(b), c.bytes(c.below(3))...))
		b[c.below(19)] += byte(c.below(3)) - 1
		backAgain(t, b)
		b[c.below(19)] = byte(c.below(256))
		backAgain(t, b)
		backAgain(t, c.bytes(c.below(60)))
	}
}

// TestEachByte: P5.1, P5.2: each byte ahead of the frame, whatever stands there.
func TestEachByte(t *testing.T) {
	for _, p := range []api.Packet{normal(), forward(), normal(gen(1), id(0), sized(14)), forward(gen(1<<32), id(1<<40), sized(1514))} {
		for at := range 20 {
			for x := range 256 {
				backAgain(t, set(p, at, byte(x)))
			}
		}
	}
}

// FuzzDecode: as TestAnyBytes; go test runs the seeds alone.
func FuzzDecode(f *testing.F) {
	for _, p := range rightPackets() {
		f.Add(plain(p))
	}
	for _, n := range []int{0, 18, 19, 33, 1533, 1534} {
		f.Add(make([]byte, n))
	}
	f.Fuzz(backAgain)
}

// TestSameAnswers: P2: the same calls answer the same, whatever was called between.
func TestSameAnswers(t *testing.T) {
	l := append(rightPackets(), wrongPackets()...)
	for i, p := range l {
		a, e := tunnel.Encode(p)
		q, f := tunnel.Again(p, 7, 7)
		other := l[len(l)-1-i]
		tunnel.Encode(other)
		tunnel.Decode(plain(other))
		tunnel.Again(other, i%18-1, i)
		b, g := tunnel.Encode(p)
		r, h := tunnel.Again(p, 7, 7)
		if !bytes.Equal(a, b) || e != g || !same(q, r) || f != h {
			t.Fatalf("%d: %q %d, %q %d; %+v %d, %+v %d", i, a, e, b, g, q, f, r, h)
		}
	}
}

// spoil writes into all that a list's memory has.
func spoil(b []byte) {
	for i := range b[:cap(b)] {
		b[:cap(b)][i] ^= 0x5a
	}
}

// TestEncodeKeepsNothing: the frame is neither written into nor kept, and an answer is new memory.
func TestEncodeKeepsNothing(t *testing.T) {
	room := frame(40)
	p := normal(holds(room[:20]))
	a, _ := tunnel.Encode(p)
	b, _ := tunnel.Encode(p)
	spoil(a)
	if !bytes.Equal(room, frame(40)) || !bytes.Equal(b, plain(normal())) {
		t.Errorf("written into: %q %q", room, b)
	}
	spoil(room)
	if !bytes.Equal(b, plain(normal())) {
		t.Errorf("kept: %q", b)
	}
}

// TestDecodeKeepsNothing: the bytes are neither written into nor kept, and the frame is new memory.
func TestDecodeKeepsNothing(t *testing.T) {
	was := append(plain(forward()), "room"...)
	room := bytes.Clone(was)
	n := len(room) - len("room")
	p, _ := tunnel.Decode(room[:n])
	q, _ := tunnel.Decode(room[:n])
	spoil(p.Frame)
	_ = append(p.Frame, "zzzz"...)
	if !bytes.Equal(room, was) || !same(q, forward()) {
		t.Errorf("written into: %q %+v", room, q)
	}
	spoil(room)
	if !same(q, forward()) {
		t.Errorf("kept: %+v", q)
	}
}

// TestAgainKeepsNothing: the packet that is handed in stays as it is, and the frame of what comes is new memory.
func TestAgainKeepsNothing(t *testing.T) {
	room := frame(40)
	p := normal(holds(room[:20]))
	a, _ := tunnel.Again(p, 8, p.Gen)
	b, _ := tunnel.Again(p, 8, p.Gen)
	if !same(p, normal()) || !same(a, forward()) {
		t.Fatalf("%+v, %+v", p, a)
	}
	spoil(a.Frame)
	_ = append(a.Frame, "zzzz"...)
	if !bytes.Equal(room, frame(40)) || !same(b, forward()) {
		t.Errorf("written into: %q %+v", room, b)
	}
	spoil(room)
	if !same(b, forward()) {
		t.Errorf("kept: %+v", b)
	}
}

// TestAskedKeepsNothing: Right and Same write into nothing.
func TestAskedKeepsNothing(t *testing.T) {
	a, b := frame(40), frame(40)
	tunnel.Right(normal(holds(a[:20])))
	tunnel.Same(normal(holds(a[:20])), normal(holds(b[:20])))
	if !bytes.Equal(a, frame(40)) || !bytes.Equal(b, frame(40)) {
		t.Errorf("written into: %q %q", a, b)
	}
}
