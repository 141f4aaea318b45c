package control_test

import (
	"bytes"
	"encoding/binary"
	"testing"

	"rutter/api"
	"rutter/control"
)

// chance tells numbers that look like chance, the same in each run.
type chance uint64

func (c *chance) below(n int) int {
	*c = *c*6364136223846793005 + 1442695040888963407
	return int(uint64(*c) >> 33 % uint64(n))
}

func (c *chance) bytes(n int) []byte {
	b := make([]byte, n)
	for i := range b {
		b[i] = byte(c.below(256))
	}
	return b
}

// long is a number of at most 2^40, and now and then that.
func (c *chance) long() int {
	if c.below(20) == 0 {
		return 1 << 40
	}
	return c.below(1<<20)<<20 + c.below(1<<20)
}

// row is one that may be.
func (c *chance) row() api.Row {
	a := c.below(16)
	b := (a + 1 + c.below(15)) % 16
	n := c.below(4)
	r := row(api.Phase(n), port(c.below(32)), mac(uint64(c.below(1<<24)<<24+c.below(1<<24))), gen(1+c.below(1<<16)<<16+c.below(1<<16)), ver(max(1, c.long())), since(c.long()))
	r.Owner, r.Target, r.Old = [...]int{a, a, a, -1}[n], [...]int{-1, b, -1, -1}[n], [...]int{-1, -1, b, -1}[n]
	return r
}

// record is one that may stand in a message.
func (c *chance) record() api.Record {
	f := api.Flow{Proto: 6 + 11*c.below(2), Src: uint32(c.below(1<<16)<<16 + c.below(1<<16)), Dst: uint32(c.below(1<<16)<<16 + c.below(1<<16))}
	f.SrcPort, f.DstPort = c.below(1<<16), c.below(1<<16)
	return api.Record{Flow: f, Until: c.long()}
}

// message is one that may be.
func (c *chance) message() api.Message {
	m := api.Message{Kind: 1 + c.below(3)}
	if m.Kind == 1 {
		m.Row = c.row()
		return m
	}
	m.Port, m.Ver = c.below(32), max(1, c.long())
	if m.Kind == 3 {
		for range c.below(17) {
			m.Records = append(m.Records, c.record())
		}
	}
	return m
}

// TestThereAndBack: P6.2: a message is decoded from its bytes.
func TestThereAndBack(t *testing.T) {
	c := chance(1)
	for i := range 5000 {
		m := c.message()
		b, e := control.Encode(m)
		if e != api.OK || !bytes.Equal(b, plain(m)) {
			t.Fatalf("%d: %+v: %q, %d", i, m, b, e)
		}
		if n, e := control.Decode(b); e != api.OK || !same(m, n) || !control.Same(m, n) {
			t.Fatalf("%d: %+v: %+v, %d", i, m, n, e)
		}
		noMessage(t, b[:c.below(len(b))])
	}
}

// taken takes a number off the front of bytes.
func taken(b *[]byte, n int) int {
	x := binary.BigEndian.Uint64(append(make([]byte, 8-n), (*b)[:n]...))
	*b = (*b)[n:]
	return int(x)
}

// expected is the message of bytes, told anew, and whether there is one.
func expected(b []byte) (api.Message, bool) {
	if len(b) == 0 {
		return api.Message{}, false
	}
	m := api.Message{Kind: taken(&b, 1)}
	switch {
	case m.Kind == 1 && len(b) == 28:
		m.Row.Port, m.Row.MAC = taken(&b, 1), uint64(taken(&b, 6))
		m.Row.Owner, m.Row.Target, m.Row.Old = taken(&b, 1)-1, taken(&b, 1)-1, taken(&b, 1)-1
		m.Row.Phase, m.Row.Gen = api.Phase(taken(&b, 1)), taken(&b, 5)
		m.Row.Ver, m.Row.Since = taken(&b, 6), taken(&b, 6)
	case m.Kind == 2 && len(b) == 7:
		m.Port, m.Ver = taken(&b, 1), taken(&b, 6)
	case m.Kind == 3 && len(b) >= 8 && len(b) == 8+19*int(b[7]):
		m.Port, m.Ver = taken(&b, 1), taken(&b, 6)
		for range taken(&b, 1) {
			x := api.Record{Flow: api.Flow{Proto: taken(&b, 1), Src: uint32(taken(&b, 4)), Dst: uint32(taken(&b, 4))}}
			x.Flow.SrcPort, x.Flow.DstPort, x.Until = taken(&b, 2), taken(&b, 2), taken(&b, 6)
			m.Records = append(m.Records, x)
		}
	default:
		return api.Message{}, false
	}
	return m, mayBe(m)
}

// backAgain checks that what is decoded has just the bytes it is of, and that all other bytes are none's.
func backAgain(t *testing.T, b []byte) {
	t.Helper()
	want, ok := expected(b)
	if !ok {
		noMessage(t, b)
		return
	}
	m, e := control.Decode(b)
	if e != api.OK || !same(m, want) || !control.Right(m) {
		t.Fatalf("%q: %+v, %d", b, m, e)
	}
	encodes(t, m, b)
}

// TestAnyBytes: P6.1, P6.2, and P1: whatever the bytes, from those that are near a message's.
func TestAnyBytes(t *testing.T) {
	c := chance(2)
	for range 5000 {
		b := plain(c.message())
		backAgain(t, b)
		backAgain(t, b[:c.below(len(b))])
		backAgain(t, append(bytes.Clone(b), c.bytes(c.below(21))...))
		b[c.below(len(b))] += byte(c.below(3)) - 1
		backAgain(t, b)
		b[c.below(len(b))] = byte(c.below(256))
		backAgain(t, b)
		b = c.bytes(c.below(60))
		backAgain(t, b)
		backAgain(t, append([]byte{byte(c.below(4))}, b...))
	}
}

// TestEachByte: P6.1, P6.2: each byte, whatever stands there.
func TestEachByte(t *testing.T) {
	l := []api.Message{tells(has(row(0))), tells(has(row(1))), tells(has(row(2))), tells(has(row(3))), awake(), tracked(), tracked(knows())}
	l = append(l, tells(has(row(0, gen(1<<32), ver(1<<40), since(1<<40)))), awake(at(1<<40)), tracked(at(1), sized(1)))
	for _, m := range l {
		for at := range plain(m) {
			for x := range 256 {
				backAgain(t, set(m, at, byte(x)))
			}
		}
	}
}

// FuzzDecode: as TestAnyBytes; go test runs the seeds alone.
func FuzzDecode(f *testing.F) {
	for _, m := range rightMessages() {
		f.Add(plain(m))
	}
	for _, n := range []int{0, 1, 8, 9, 28, 29, 30, 313, 314} {
		f.Add(make([]byte, n))
	}
	f.Fuzz(backAgain)
}

// TestSameAnswers: P2: the same calls answer the same, whatever was called between.
func TestSameAnswers(t *testing.T) {
	l := append(rightMessages(), wrongMessages()...)
	for i, m := range l {
		other := l[len(l)-1-i]
		a, e := control.Encode(m)
		n, f := control.Decode(plain(m))
		right, eq := control.Right(m), control.Same(m, other)
		control.Encode(other)
		control.Decode(plain(other))
		control.Row(other.Row)
		b, g := control.Encode(m)
		o, h := control.Decode(plain(m))
		if !bytes.Equal(a, b) || e != g || !same(n, o) || f != h || right != control.Right(m) || eq != control.Same(m, other) {
			t.Fatalf("%d: %q %d, %q %d; %+v %d, %+v %d", i, a, e, b, g, n, f, o, h)
		}
	}
}

// spoil writes into all that a list's memory has.
func spoil[T any](l []T, with T) {
	l = l[:cap(l)]
	for i := range l {
		l[i] = with
	}
}

// TestEncodeKeepsNothing: the records are neither written into nor kept, and an answer is new memory.
func TestEncodeKeepsNothing(t *testing.T) {
	room := records(5)
	m := tracked(knows(room[:3]...))
	a, _ := control.Encode(m)
	b, _ := control.Encode(m)
	spoil(a, 'z')
	if !same(tracked(knows(room...)), tracked(sized(5))) || !bytes.Equal(b, plain(tracked())) {
		t.Errorf("written into: %+v %q", room, b)
	}
	spoil(room, api.Record{})
	if !bytes.Equal(b, plain(tracked())) {
		t.Errorf("kept: %q", b)
	}
}

// TestDecodeKeepsNothing: the bytes are neither written into nor kept, and the records are new memory.
func TestDecodeKeepsNothing(t *testing.T) {
	was := append(plain(tracked()), "room"...)
	room := bytes.Clone(was)
	n := len(room) - len("room")
	a, _ := control.Decode(room[:n])
	b, _ := control.Decode(room[:n])
	spoil(a.Records, api.Record{})
	_ = append(a.Records, api.Record{}, api.Record{})
	if !bytes.Equal(room, was) || !same(b, tracked()) {
		t.Errorf("written into: %q %+v", room, b)
	}
	spoil(room, 'z')
	if !same(b, tracked()) {
		t.Errorf("kept: %+v", b)
	}
}

// TestAskedKeepsNothing: Right and Same write into nothing.
func TestAskedKeepsNothing(t *testing.T) {
	a, b := records(5), records(5)
	control.Right(tracked(knows(a[:3]...)))
	control.Same(tracked(knows(a[:3]...)), tracked(knows(b[:3]...)))
	if !same(tracked(knows(a...)), tracked(sized(5))) || !same(tracked(knows(b...)), tracked(sized(5))) {
		t.Errorf("written into: %+v %+v", a, b)
	}
}
