package session_test

import (
	"testing"

	"rutter/api"
	"rutter/session"
)

// TestTakeWrong: P11.1: a letter that may not be is ErrArg, and nothing, ahead of all else.
func TestTakeWrong(t *testing.T) {
	for _, s := range []*session.Session{made(t, 5), met(t)} {
		for _, l := range wrongLetters() {
			refuses(t, s, l, api.ErrArg)
		}
	}
	s, p := busy(t, 9)
	for _, l := range wrongLetters() {
		refuses(t, s, l, api.ErrArg)
	}
	for _, n := range []int{1, 8, 9, 10, 1 << 32} {
		for _, c := range []change{peer(-1), peer(1<<32 + 1), ack(-1), ack(1<<40 + 1), seq(-1), seq(1<<40 + 1), holds(text(1)), holds(text(1001)), seq(3)} {
			refuses(t, s, from(mine(n), ack(5), c), api.ErrArg)
		}
		refuses(t, s, from(mine(n), ack(5), says(3, "")), api.ErrArg)
		refuses(t, s, from(mine(n), ack(5), seq(3), sized(1001)), api.ErrArg)
	}
	has(t, s, p)
}

// TestTakeStale: P11.1: a letter of a MINE below PEER is ErrStale, and nothing, whatever it has.
func TestTakeStale(t *testing.T) {
	for _, size := range []int{0, 1, 9, 64} {
		s, p := busy(t, size)
		for n := 1; n < 9; n++ {
			for _, other := range []int{0, 4, 5, 6, 9, 1 << 32} {
				l := from(mine(n), peer(other))
				refuses(t, s, l, api.ErrStale)
				refuses(t, s, changed(l, []change{ack(5)}), api.ErrStale)
				refuses(t, s, changed(l, []change{says(1, "b")}), api.ErrStale)
				refuses(t, s, changed(l, []change{ack(5), says(3, "b")}), api.ErrStale)
			}
		}
		has(t, s, p)
	}
	s := made(t, 5)
	takes(t, s, from(mine(1<<32)), taken{reset: true})
	refuses(t, s, from(mine(1<<32-1)), api.ErrStale)
	refuses(t, s, from(mine(1)), api.ErrStale)
	takes(t, s, from(mine(1<<32)), taken{})
}

// TestTakeReset: P11.1: a letter of a MINE above PEER resets: PEER is that, the queue is empty, NEXT 1, GOT 0.
func TestTakeReset(t *testing.T) {
	for _, n := range []int{1, 2, 9, 1<<32 - 1, 1 << 32} {
		s := made(t, 5)
		takes(t, s, from(mine(n)), taken{reset: true})
		has(t, s, plain{mine: 5, peer: n, next: 1})
		takes(t, s, from(mine(n)), taken{})
	}
	for _, n := range []int{10, 11, 1 << 31, 1<<32 - 1, 1 << 32} {
		for _, size := range []int{0, 1, 9, 64} {
			s, _ := busy(t, size)
			takes(t, s, from(mine(n)), taken{reset: true})
			has(t, s, plain{mine: 5, peer: n, next: 1})
			refuses(t, s, from(), api.ErrStale)
			pushes(t, s, "new", api.OK)
			takes(t, s, from(mine(n), says(1, "b")), taken{"b", true, false})
			has(t, s, plain{mine: 5, peer: n, next: 1, got: 1, queue: []string{"new"}})
		}
	}
}

// TestTakeResets: P11.1: one boot behind the other, each of which begins anew.
func TestTakeResets(t *testing.T) {
	s := made(t, 5)
	for n := 1; n < 60; n++ {
		takes(t, s, from(mine(n), ack(3), says(1, "first")), taken{"first", true, true})
		has(t, s, plain{mine: 5, peer: n, next: 1, got: 1})
		pushes(t, s, "a", api.OK)
		pushes(t, s, "b", api.OK)
		takes(t, s, from(mine(n), ack(1), says(2, "second")), taken{"second", true, false})
		has(t, s, plain{mine: 5, peer: n, next: 2, got: 2, queue: []string{"b"}})
	}
}

// TestTakeOfAnotherPeer: P11.1: a letter whose PEER is not this one's MINE does no more than reset.
func TestTakeOfAnotherPeer(t *testing.T) {
	for _, n := range []int{0, 1, 4, 6, 9, 10, 1<<32 - 1, 1 << 32} {
		for _, c := range []change{ack(0), ack(4), ack(1 << 40), says(1, "b"), says(3, "b")} {
			s, p := busy(t, 9)
			takes(t, s, from(peer(n), c), taken{})
			takes(t, s, from(peer(n), ack(6), c), taken{})
			has(t, s, p)
			takes(t, s, from(mine(10), peer(n), c), taken{reset: true})
			has(t, s, plain{mine: 5, peer: 10, next: 1})
			takes(t, s, from(mine(10), peer(n), c), taken{})
			pushes(t, s, "new", api.OK)
			takes(t, s, from(mine(10), peer(n), ack(1), says(1, "b")), taken{})
			has(t, s, plain{mine: 5, peer: 10, next: 1, queue: []string{"new"}})
			fresh := made(t, 5)
			takes(t, fresh, from(peer(n), c), taken{reset: true})
			has(t, fresh, plain{mine: 5, peer: 9, next: 1})
		}
	}
}

// TestTakeAck: P11.1: the bodies whose number is not above ACK go; NEXT is that of the one behind them.
func TestTakeAck(t *testing.T) {
	for _, size := range []int{0, 1, 2, 7, 8, 9, 63, 64} {
		last := size + 3
		for _, n := range []int{0, 1, 3, 4, 5, last / 2, last - 1, last, last + 1, last + 2, last + 64, 1 << 32, 1<<40 - 1, 1 << 40} {
			s, p := busy(t, size)
			takes(t, s, from(ack(n)), taken{})
			for len(p.queue) > 0 && p.next <= n {
				p.next, p.queue = p.next+1, p.queue[1:]
			}
			has(t, s, p)
			takes(t, s, from(ack(n)), taken{})
			takes(t, s, from(ack(3)), taken{})
			takes(t, s, from(), taken{})
			has(t, s, p)
			if len(p.queue) < 64 {
				pushes(t, s, "more", api.OK)
				p.queue = append(p.queue[:len(p.queue):len(p.queue)], "more")
			}
			comes(t, s, p)
		}
	}
}

// TestTakeAckOfNothing: P11.1: of an empty queue an ACK takes nothing, and moves no number.
func TestTakeAckOfNothing(t *testing.T) {
	s := met(t)
	for _, n := range []int{0, 1, 2, 64, 1 << 40} {
		takes(t, s, from(ack(n)), taken{})
		has(t, s, plain{mine: 5, peer: 9, next: 1})
	}
	pushes(t, s, "a", api.OK)
	has(t, s, plain{mine: 5, peer: 9, next: 1, queue: []string{"a"}})
	takes(t, s, from(ack(1<<40)), taken{})
	takes(t, s, from(ack(1<<40)), taken{})
	pushes(t, s, "b", api.OK)
	has(t, s, plain{mine: 5, peer: 9, next: 2, queue: []string{"b"}})
}

// TestTakeSeq: P11.1: the body of GOT and 1 is handed out, and no other.
func TestTakeSeq(t *testing.T) {
	for _, n := range []int{1, 2, 4, 5, 10, 64, 1 << 32, 1<<32 + 3, 1<<40 - 1, 1 << 40} {
		s, p := busy(t, 9)
		takes(t, s, from(says(n, "b")), taken{})
		takes(t, s, from(), taken{})
		has(t, s, p)
		takes(t, s, from(says(3, "three")), taken{"three", true, false})
		p.got = 3
		has(t, s, p)
		if n != 4 {
			takes(t, s, from(says(n, "b")), taken{})
		}
		takes(t, s, from(says(3, "three")), taken{})
		has(t, s, p)
		takes(t, s, from(says(4, "four")), taken{"four", true, false})
		p.got = 4
		has(t, s, p)
	}
	s := met(t)
	for _, n := range []int{2, 3, 1 << 40} {
		takes(t, s, from(says(n, "b")), taken{})
	}
	has(t, s, plain{mine: 5, peer: 9, next: 1})
}

// TestTakeBodies: P11.1: a body of any length is handed out as it came.
func TestTakeBodies(t *testing.T) {
	s := met(t)
	for i, n := range []int{1, 2, 255, 256, 999, 1000} {
		takes(t, s, from(seq(i+1), sized(n)), taken{string(text(n)), true, false})
		has(t, s, plain{mine: 5, peer: 9, next: 1, got: i + 1})
	}
	room := text(30)
	takes(t, s, from(seq(7), holds(room[:10])), taken{string(text(10)), true, false})
	takes(t, s, from(seq(8), holds([]byte{0})), taken{"\x00", true, false})
}

// TestTakeAckAndBody: P11.1: one letter acknowledges, and is handed out, at once.
func TestTakeAckAndBody(t *testing.T) {
	for _, n := range []int{3, 4, 8, 12, 13, 1 << 40} {
		s, p := busy(t, 9)
		takes(t, s, from(ack(n), says(3, "b")), taken{"b", true, false})
		gone := min(n, 12) - 3
		p.got, p.next, p.queue = 3, 4+gone, p.queue[gone:]
		has(t, s, p)
		s, p = busy(t, 9)
		takes(t, s, from(ack(n), says(2, "b")), taken{})
		p.next, p.queue = 4+gone, p.queue[gone:]
		has(t, s, p)
	}
}

// TestTakeResetAndBody: P11.1: one letter resets, and is handed out, at once, if its SEQ is 1 then; its ACK takes nothing any more.
func TestTakeResetAndBody(t *testing.T) {
	for _, n := range []int{0, 1, 4, 9, 1 << 40} {
		s, _ := busy(t, 9)
		takes(t, s, from(mine(10), ack(n), says(1, "b")), taken{"b", true, true})
		has(t, s, plain{mine: 5, peer: 10, next: 1, got: 1})
		for _, other := range []int{2, 3, 4, 1 << 40} {
			s, _ = busy(t, 9)
			takes(t, s, from(mine(10), ack(n), says(other, "b")), taken{reset: true})
			has(t, s, plain{mine: 5, peer: 10, next: 1})
		}
		fresh := made(t, 5)
		pushes(t, fresh, "a", api.OK)
		takes(t, fresh, from(ack(n), says(1, "b")), taken{"b", true, true})
		has(t, fresh, plain{mine: 5, peer: 9, next: 1, got: 1})
	}
}

// TestTakeTwice: P11.1: a letter that comes again does nothing any more.
func TestTakeTwice(t *testing.T) {
	for _, l := range []session.Letter{from(), from(ack(5)), from(says(3, "b")), from(ack(5), says(3, "b")), from(mine(10), ack(1), says(1, "b")), from(mine(10), peer(0))} {
		s, p := busy(t, 9)
		want, _ := p.take(l)
		takes(t, s, l, want)
		has(t, s, p)
		for range 3 {
			takes(t, s, l, taken{})
			has(t, s, p)
		}
		pushes(t, s, "new", api.OK)
		p.queue = append(p.queue, "new")
		has(t, s, p)
	}
}

// TestTakeItself: P11.1: a session's own letters, that come back to it, are taken as any others.
func TestTakeItself(t *testing.T) {
	s := made(t, 5)
	pushes(t, s, "a", api.OK)
	l := s.Out()[0]
	takes(t, s, l, taken{reset: true})
	has(t, s, plain{mine: 5, peer: 5, next: 1})
	takes(t, s, l, taken{})
	pushes(t, s, "b", api.OK)
	takes(t, s, s.Out()[0], taken{"b", true, false})
	takes(t, s, s.Out()[0], taken{})
	has(t, s, plain{mine: 5, peer: 5, next: 2, got: 1})
}
