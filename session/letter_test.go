package session_test

import (
	"bytes"
	"math"
	"testing"

	"rutter/session"
)

// text is a body of n bytes, which are the same in each run.
func text(n int) []byte {
	b := make([]byte, n)
	for i := range b {
		b[i] = byte(7 + i*13 + i/256)
	}
	return b
}

// change changes a letter.
type change func(l *session.Letter)

func mine(n int) change     { return func(l *session.Letter) { l.Mine = n } }
func peer(n int) change     { return func(l *session.Letter) { l.Peer = n } }
func ack(n int) change      { return func(l *session.Letter) { l.Ack = n } }
func seq(n int) change      { return func(l *session.Letter) { l.Seq = n } }
func holds(b []byte) change { return func(l *session.Letter) { l.Body = b } }
func sized(n int) change    { return holds(text(n)) }

func changed(l session.Letter, c []change) session.Letter {
	for _, x := range c {
		x(&l)
	}
	return l
}

// full is an ordinary letter with a body, with that changed.
func full(c ...change) session.Letter {
	return changed(session.Letter{Mine: 0x02030405, Peer: 0x06070809, Ack: 0x0a0b0c0d0e, Seq: 0x1112131415, Body: text(20)}, c)
}

// bare is an ordinary letter without a body, with that changed.
func bare(c ...change) session.Letter {
	return changed(session.Letter{Mine: 0x02030405, Peer: 0x06070809, Ack: 0x0a0b0c0d0e}, c)
}

// both are ordinary letters with a body and without one, each with one thing changed.
func both(c ...change) []session.Letter {
	var l []session.Letter
	for _, x := range c {
		l = append(l, full(x), bare(x))
	}
	return l
}

// is tells whether n is from least to most.
func is(n, least, most int) bool { return least <= n && n <= most }

// mayBe is what the chapter says of a letter, told anew.
func mayBe(l session.Letter) bool {
	if !is(l.Mine, 1, 4294967296) || !is(l.Peer, 0, 4294967296) || !is(l.Ack, 0, 1099511627776) || !is(l.Seq, 0, 1099511627776) {
		return false
	}
	if l.Seq != 0 {
		return len(l.Body) != 0 && len(l.Body) <= 1000
	}
	return len(l.Body) == 0
}

// same holds two letters against each other without the program.
func same(a, b session.Letter) bool {
	numbers := func(l session.Letter) [4]int { return [...]int{l.Mine, l.Peer, l.Ack, l.Seq} }
	return numbers(a) == numbers(b) && string(a.Body) == string(b.Body)
}

// rightLetters are letters that may be: ordinary ones, and the edges of each field.
func rightLetters() []session.Letter {
	l := []session.Letter{full(), bare(), bare(holds([]byte{})), bare(holds(text(9)[:0]))}
	for _, n := range []int{1, 2, 255, 256, 65536, 1<<31 - 1, 1 << 31, 1<<32 - 1, 1 << 32} {
		l = append(l, both(mine(n), peer(n))...)
	}
	for _, n := range []int{1, 2, 255, 256, 1<<32 - 1, 1 << 32, 1<<32 + 1, 1<<40 - 1, 1 << 40} {
		l = append(l, full(seq(n)), full(seq(n), sized(1)), full(seq(n), sized(1000)))
		l = append(l, both(ack(n))...)
	}
	for _, n := range []int{1, 2, 255, 256, 257, 999, 1000} {
		l = append(l, full(sized(n)))
	}
	l = append(l, both(peer(0), ack(0))...)
	least := session.Letter{Mine: 1}
	most := session.Letter{Mine: 1 << 32, Peer: 1 << 32, Ack: 1 << 40, Seq: 1 << 40, Body: bytes.Repeat([]byte{255}, 1000)}
	return append(l, least, most)
}

// beyond are numbers far out of what any field may be; some have a right one in their lowest bytes.
func beyond() []int {
	return []int{math.MinInt64, math.MinInt64 + 3, -1 << 40, -1 << 32, -256, -2, -1, 1<<40 + 1, 1<<40 + 5, 1 << 41, 1<<48 - 1, 1 << 48, 1<<48 + 3, 1 << 56, math.MaxInt64}
}

// wrongLetters are letters that may not be, each by one thing, and by more of them.
func wrongLetters() []session.Letter {
	l := []session.Letter{{}, {Seq: 1, Body: text(1)}, {Body: text(1)}}
	for _, n := range append(beyond(), 1<<32+1, 1<<32+2, 1<<33, 1<<40) {
		l = append(l, both(mine(n), peer(n))...)
	}
	l = append(l, both(mine(0))...)
	for _, n := range beyond() {
		l = append(l, both(ack(n))...)
		l = append(l, full(seq(n)), bare(seq(n)))
	}
	for _, n := range []int{1001, 1002, 1024, 65535, 65536, 65536 + 20, 1 << 20} {
		l = append(l, full(sized(n)), bare(sized(n)))
	}
	for _, n := range []int{1, 2, 20, 999, 1000} {
		l = append(l, bare(sized(n)), full(seq(0), sized(n)))
	}
	for _, n := range []int{1, 2, 256, 1 << 32, 1<<40 - 1, 1 << 40} {
		l = append(l, bare(seq(n)), full(seq(n), holds(nil)), full(seq(n), holds([]byte{})), full(seq(n), sized(1001)))
	}
	return append(l, full(mine(0), peer(-1), ack(-1), seq(-1), sized(1001)))
}

// TestRight: P11.1: which letters may be, at each edge.
func TestRight(t *testing.T) {
	for i, l := range rightLetters() {
		if !mayBe(l) || !session.Right(l) {
			t.Errorf("%d: %+v may not be", i, l)
		}
	}
	for i, l := range wrongLetters() {
		if mayBe(l) || session.Right(l) {
			t.Errorf("%d: %+v may be", i, l)
		}
	}
}

// TestRightBodies: P11.1: how long a body may be hangs on whether SEQ is 0 alone.
func TestRightBodies(t *testing.T) {
	for n := range 1100 {
		if session.Right(full(sized(n))) != is(n, 1, 1000) {
			t.Errorf("of %d bytes, with a SEQ", n)
		}
		if session.Right(bare(sized(n))) != (n == 0) {
			t.Errorf("of %d bytes, without one", n)
		}
	}
}

// TestRightByLength: P11.1: a body's length counts, not the room behind it.
func TestRightByLength(t *testing.T) {
	room := text(2000)
	if session.Right(full(holds(room[:0]))) || !session.Right(bare(holds(room[:0]))) || !session.Right(full(holds(room[:1000]))) || session.Right(full(holds(room[:1001]))) {
		t.Error("the room counts")
	}
}
