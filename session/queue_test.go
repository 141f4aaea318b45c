package session_test

import (
	"math"
	"strings"
	"testing"

	"rutter/api"
	"rutter/session"
)

// TestNew: P11.1: a session of a boot, at the edges; ErrArg, and none, if there can't be such a one.
func TestNew(t *testing.T) {
	for _, n := range []int{1, 2, 255, 256, 1<<32 - 1, 1 << 32} {
		has(t, made(t, n), plain{mine: n, next: 1})
	}
	for _, n := range append(beyond(), 0, 1<<32+1, 1<<32+2, 1<<33, 1<<40) {
		if s, e := session.New(n); s != nil || e != api.ErrArg {
			t.Errorf("New %d: %v, %d", n, s, e)
		}
	}
}

// TestNewIsApart: P2: a new session is another one than those that were made ahead, of the same boot, too.
func TestNewIsApart(t *testing.T) {
	a, p := busy(t, 5)
	b := made(t, 5)
	has(t, b, plain{mine: 5, next: 1})
	pushes(t, b, "b", api.OK)
	takes(t, b, from(mine(7)), taken{reset: true})
	has(t, a, p)
	has(t, b, plain{mine: 5, peer: 7, next: 1})
}

// TestPush: P11.1: a body more, behind all others, of any length that a body may have; ErrArg of what can't be one.
func TestPush(t *testing.T) {
	s, p := busy(t, 0)
	for _, n := range []int{1000, 1, 2, 999, 255, 256} {
		pushes(t, s, strings.Repeat("b", n), api.OK)
		p.queue = append(p.queue, strings.Repeat("b", n))
		has(t, s, p)
	}
	if e := s.Push(nil); e != api.ErrArg {
		t.Errorf("Push of nil: %d", e)
	}
	for _, n := range []int{0, 1001, 1002, 65535, 65536, 65537, 1 << 20} {
		pushes(t, s, strings.Repeat("b", n), api.ErrArg)
		has(t, s, p)
	}
}

// TestPushByLength: P11.1: a body's length counts, not the room behind it.
func TestPushByLength(t *testing.T) {
	s := met(t)
	room := text(2000)
	if e := s.Push(room[:0]); e != api.ErrArg {
		t.Errorf("of nothing: %d", e)
	}
	if e := s.Push(room[:1001]); e != api.ErrArg {
		t.Errorf("of 1001 bytes: %d", e)
	}
	if e := s.Push(room[:1000]); e != api.OK {
		t.Errorf("of 1000 bytes: %d", e)
	}
	has(t, s, plain{mine: 5, peer: 9, next: 1, queue: []string{string(room[:1000])}})
}

// TestPushFull: P11.1: a queue has 64 bodies at most; ErrArg of what can't be a body comes ahead of ErrFull.
func TestPushFull(t *testing.T) {
	for n := range 64 {
		s, p := busy(t, n)
		pushes(t, s, "more", api.OK)
		p.queue = append(p.queue, "more")
		has(t, s, p)
	}
	s, p := busy(t, 64)
	for range 3 {
		pushes(t, s, "more", api.ErrFull)
		pushes(t, s, strings.Repeat("b", 1000), api.ErrFull)
		pushes(t, s, "", api.ErrArg)
		pushes(t, s, strings.Repeat("b", 1001), api.ErrArg)
		has(t, s, p)
	}
	takes(t, s, from(ack(5)), taken{})
	pushes(t, s, "last but one", api.OK)
	pushes(t, s, "last", api.OK)
	pushes(t, s, "more", api.ErrFull)
	p.next, p.queue = 6, append(p.queue[2:], "last but one", "last")
	has(t, s, p)
	comes(t, s, p)
}

// comes checks all bodies of a queue, in order, by letting them go one by one.
func comes(t *testing.T, s *session.Session, p plain) {
	t.Helper()
	for len(p.queue) > 0 {
		has(t, s, p)
		takes(t, s, session.Letter{Mine: p.peer, Peer: p.mine, Ack: p.next}, taken{})
		p.next, p.queue = p.next+1, p.queue[1:]
	}
	has(t, s, p)
}

// TestPushAll: P11.1: all of a full queue are there, in order, also behind a queue that was full already, and behind a reset.
func TestPushAll(t *testing.T) {
	s, p := busy(t, 64)
	comes(t, s, p)
	p.next = 68
	for range 3 {
		p.queue = texts(64)
		for _, body := range p.queue {
			pushes(t, s, body, api.OK)
		}
		pushes(t, s, "more", api.ErrFull)
		comes(t, s, p)
		p.next += 64
	}
	s, p = busy(t, 64)
	takes(t, s, from(mine(10)), taken{reset: true})
	p = plain{mine: 5, peer: 10, next: 1}
	has(t, s, p)
	p.queue = texts(64)
	for _, body := range p.queue {
		pushes(t, s, body, api.OK)
	}
	pushes(t, s, "more", api.ErrFull)
	comes(t, s, p)
}

// TestPushAhead: P11.1: what is pushed ahead of the other's boot stands in the queue, and goes with the reset.
func TestPushAhead(t *testing.T) {
	s := made(t, 5)
	p := plain{mine: 5, next: 1, queue: texts(64)}
	for _, body := range p.queue {
		pushes(t, s, body, api.OK)
	}
	pushes(t, s, "more", api.ErrFull)
	has(t, s, p)
	takes(t, s, from(), taken{reset: true})
	has(t, s, plain{mine: 5, peer: 9, next: 1})
}

// TestOut: P11.1: a letter of each of the first eight bodies; if there is none, one without a body; the same ones again and again.
func TestOut(t *testing.T) {
	for _, n := range []int{0, 1, 2, 7, 8, 9, 10, 63, 64} {
		s, p := busy(t, n)
		for range 3 {
			has(t, s, p)
		}
		if l := s.Out(); len(l) != max(1, min(n, 8)) {
			t.Errorf("of %d: %d letters", n, len(l))
		}
	}
}

// TestOutLetters: P11.1: what the letters have: MINE, PEER, GOT, and the numbers of the bodies.
func TestOutLetters(t *testing.T) {
	letters := func(s *session.Session, want ...session.Letter) {
		t.Helper()
		if l := s.Out(); !sameLetters(l, want) {
			t.Errorf("%+v; want %+v", l, want)
		}
	}
	s := made(t, 1<<32)
	letters(s, session.Letter{Mine: 1 << 32})
	pushes(t, s, "early", api.OK)
	letters(s, session.Letter{Mine: 1 << 32, Seq: 1, Body: []byte("early")})
	takes(t, s, session.Letter{Mine: 7, Peer: 1 << 32, Ack: 1, Seq: 1, Body: []byte("in")}, taken{"in", true, true})
	letters(s, session.Letter{Mine: 1 << 32, Peer: 7, Ack: 1})
	pushes(t, s, "a", api.OK)
	pushes(t, s, "b", api.OK)
	letters(s, session.Letter{Mine: 1 << 32, Peer: 7, Ack: 1, Seq: 1, Body: []byte("a")}, session.Letter{Mine: 1 << 32, Peer: 7, Ack: 1, Seq: 2, Body: []byte("b")})
	takes(t, s, session.Letter{Mine: 7, Peer: 1 << 32, Ack: 1, Seq: 2, Body: []byte("in")}, taken{"in", true, false})
	letters(s, session.Letter{Mine: 1 << 32, Peer: 7, Ack: 2, Seq: 2, Body: []byte("b")})
	takes(t, s, session.Letter{Mine: 7, Peer: 1 << 32, Ack: 2}, taken{})
	letters(s, session.Letter{Mine: 1 << 32, Peer: 7, Ack: 2})
	takes(t, s, session.Letter{Mine: 8}, taken{reset: true})
	letters(s, session.Letter{Mine: 1 << 32, Peer: 8})
	pushes(t, s, "c", api.OK)
	letters(s, session.Letter{Mine: 1 << 32, Peer: 8, Seq: 1, Body: []byte("c")})
}

// TestOutTenBodies: P11.1, and the document's fourth example: of ten bodies the first eight go, again and again, until they are acknowledged.
func TestOutTenBodies(t *testing.T) {
	s := met(t)
	p := plain{mine: 5, peer: 9, next: 1, queue: texts(10)}
	for _, body := range p.queue {
		pushes(t, s, body, api.OK)
	}
	for range 3 {
		has(t, s, p)
		takes(t, s, from(), taken{})
	}
	for _, n := range []int{1, 2, 8, 9, 10} {
		takes(t, s, from(ack(n)), taken{})
		p.next, p.queue = n+1, texts(10)[n:]
		has(t, s, p)
		has(t, s, p)
	}
}

// TestOutMayBe: P11.1: the letters that go may be, and have bytes, whatever is in the queue.
func TestOutMayBe(t *testing.T) {
	for n := range 65 {
		s, _ := busy(t, n)
		for _, l := range s.Out() {
			if !session.Right(l) {
				t.Errorf("of %d: %+v may not be", n, l)
			}
			encodes(t, l, plainBytes(l))
		}
	}
}

// TestNil: P11.1, P1: a nil session answers ErrArg, nothing, 0, whatever it is given.
func TestNil(t *testing.T) {
	var s *session.Session
	for _, n := range []int{0, 1, 1000, 1001} {
		pushes(t, s, strings.Repeat("b", n), api.ErrArg)
	}
	if e := s.Push(nil); e != api.ErrArg {
		t.Errorf("Push: %d", e)
	}
	for _, l := range []session.Letter{{}, full(), bare(), full(mine(0)), {Mine: 1, Seq: 1, Body: []byte("b")}, {Mine: math.MaxInt}} {
		if x, e := s.Take(l); told(x) != (taken{}) || e != api.ErrArg {
			t.Errorf("Take of %+v: %+v, %d", l, x, e)
		}
	}
	if l := s.Out(); len(l) != 0 {
		t.Errorf("Out: %+v", l)
	}
	if s.Len() != 0 || s.Peer() != 0 {
		t.Errorf("Len %d, Peer %d", s.Len(), s.Peer())
	}
}
