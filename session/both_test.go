package session_test

import (
	"bytes"
	"encoding/binary"
	"testing"

	"rutter/api"
	"rutter/session"
)

// chance tells numbers that look like chance, the same in each run.
type chance uint64

func (c *chance) below(n int) int {
	*c = *c*6364136223846793005 + 1442695040888963407
	return int(uint64(*c) >> 33 % uint64(n))
}

func (c *chance) bytes(n int) []byte {
	b := make([]byte, n)
	for i := range b {
		b[i] = byte(c.below(256))
	}
	return b
}

// upto is a number from 0 to 2^bits, small ones often.
func (c *chance) upto(bits int) int {
	return min(1<<bits, (c.below(1<<21)<<20+c.below(1<<20))>>c.below(42))
}

// letter is one that may be.
func (c *chance) letter() session.Letter {
	l := session.Letter{Mine: max(1, c.upto(32)), Peer: c.upto(32), Ack: c.upto(40)}
	if c.below(3) > 0 {
		l.Seq, l.Body = max(1, c.upto(40)), c.bytes(1+c.below(40))
	}
	if l.Seq > 0 && c.below(30) == 0 {
		l.Body = c.bytes(1 + c.below(1000))
	}
	return l
}

// TestThereAndBack: P11.1: a letter is decoded from its bytes.
func TestThereAndBack(t *testing.T) {
	c := chance(1)
	for i := range 5000 {
		l := c.letter()
		b, e := session.Encode(l)
		if e != api.OK || !bytes.Equal(b, plainBytes(l)) || !session.Right(l) {
			t.Fatalf("%d: %+v: %q, %d", i, l, b, e)
		}
		if m, e := session.Decode(b); e != api.OK || !same(l, m) {
			t.Fatalf("%d: %+v: %+v, %d", i, l, m, e)
		}
	}
}

// expected is the letter of bytes, told anew, and whether there is one.
func expected(b []byte) (session.Letter, bool) {
	if len(b) < 24 || int(binary.BigEndian.Uint16(b[22:])) != len(b)-24 {
		return session.Letter{}, false
	}
	n := func(from, upto int) int {
		return int(binary.BigEndian.Uint64(append(make([]byte, 8-upto+from), b[from:upto]...)))
	}
	l := session.Letter{Mine: n(0, 5), Peer: n(5, 10), Ack: n(10, 16), Seq: n(16, 22), Body: b[24:]}
	return l, mayBe(l)
}

// backAgain checks that what is decoded has just the bytes it is of, and that all other bytes are none's.
func backAgain(t *testing.T, b []byte) {
	t.Helper()
	want, ok := expected(b)
	if !ok {
		noLetter(t, b)
		return
	}
	l, e := session.Decode(b)
	if e != api.OK || !same(l, want) || !session.Right(l) {
		t.Fatalf("%q: %+v, %d", b, l, e)
	}
	encodes(t, l, b)
}

// TestAnyBytes: P11.1, P1: whatever the bytes, from those that are near a letter's.
func TestAnyBytes(t *testing.T) {
	c := chance(2)
	for range 5000 {
		b := plainBytes(c.letter())
		backAgain(t, b)
		backAgain(t, b[:c.below(len(b))])
		backAgain(t, append(bytes.Clone(b), c.bytes(c.below(3))...))
		b[c.below(24)] += byte(c.below(3)) - 1
		backAgain(t, b)
		b[c.below(24)] = byte(c.below(256))
		backAgain(t, b)
		backAgain(t, c.bytes(c.below(60)))
	}
}

// TestEachByte: P11.1: each byte ahead of the body, whatever stands there.
func TestEachByte(t *testing.T) {
	for _, l := range []session.Letter{full(), bare(), full(mine(1), peer(0), ack(0), seq(1), sized(1)), full(mine(1<<32), peer(1<<32), ack(1<<40), seq(1<<40), sized(1000))} {
		for at := range 24 {
			for x := range 256 {
				backAgain(t, set(l, at, byte(x)))
			}
		}
	}
}

// FuzzDecode: as TestAnyBytes; go test runs the seeds alone.
func FuzzDecode(f *testing.F) {
	for _, l := range rightLetters() {
		f.Add(plainBytes(l))
	}
	for _, n := range []int{0, 23, 24, 25, 1024, 1025} {
		f.Add(make([]byte, n))
	}
	f.Fuzz(backAgain)
}

// TestSameLetters: P2: Right, Encode and Decode answer the same, whatever was called between.
func TestSameLetters(t *testing.T) {
	l := append(rightLetters(), wrongLetters()...)
	for i, x := range l {
		other := l[len(l)-1-i]
		right := session.Right(x)
		a, e := session.Encode(x)
		m, f := session.Decode(plainBytes(x))
		session.Encode(other)
		session.Decode(plainBytes(other))
		b, g := session.Encode(x)
		n, h := session.Decode(plainBytes(x))
		if !bytes.Equal(a, b) || e != g || !same(m, n) || f != h || right != session.Right(x) {
			t.Fatalf("%d: %q %d, %q %d; %+v %d, %+v %d", i, a, e, b, g, m, f, n, h)
		}
	}
}
