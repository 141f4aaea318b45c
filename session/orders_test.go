package session_test

import (
	"strings"
	"testing"

	"rutter/api"
	"rutter/session"
)

// pair is a session, and a plain one to hold it against.
type pair struct {
	s *session.Session
	p *plain
}

func two(t *testing.T, boot int) pair {
	t.Helper()
	return pair{made(t, boot), &plain{mine: boot, next: 1}}
}

// same tells whether both have the same.
func (b pair) same() bool {
	return b.s.Len() == len(b.p.queue) && b.s.Peer() == b.p.peer && sameLetters(b.s.Out(), b.p.out())
}

// answer is what a call told: of Take what was taken, and of both calls an error.
type answer struct {
	taken
	e api.Errno
}

// step is a call of both; it tells what each answered.
type step func(b pair) (answer, answer)

func pushing(body string) step {
	return func(b pair) (answer, answer) {
		return answer{e: b.s.Push([]byte(body))}, answer{e: b.p.push(body)}
	}
}

func taking(l session.Letter) step {
	return func(b pair) (answer, answer) {
		x, e := b.s.Take(l)
		y, f := b.p.take(l)
		return answer{told(x), e}, answer{y, f}
	}
}

// few are calls with little in them, of which each order has another end.
func few() []step {
	return []step{
		pushing(""), pushing("a"), pushing("bc"),
		taking(from(mine(1))), taking(from(mine(2))), taking(from(mine(2), peer(0), ack(1), says(1, "z"))), taking(from(mine(0))),
		taking(from(mine(1), ack(1))), taking(from(mine(1), ack(2), says(1, "x"))), taking(from(mine(1), says(2, "y"))),
		taking(from(mine(2), ack(1), says(1, "u"))), taking(from(mine(2), says(2, "v"))),
	}
}

// TestOrders: P11.1: all orders of up to five of these calls.
func TestOrders(t *testing.T) {
	steps := few()
	for long, orders := 1, len(steps); long <= 5; long, orders = long+1, orders*len(steps) {
		for order := range orders {
			b := two(t, 5)
			for left, i := order, 0; i < long; left, i = left/len(steps), i+1 {
				if got, want := steps[left%len(steps)](b); got != want {
					t.Fatalf("order %d: call %d, %d: %+v; want %+v, %+v", order, i, left%len(steps), got, want, *b.p)
				}
			}
			if !b.same() {
				t.Fatalf("order %d: Len %d, Peer %d, Out %+v; want %+v", order, b.s.Len(), b.s.Peer(), b.s.Out(), *b.p)
			}
		}
	}
}

// near is a letter to a session, most often one that does something with it.
func (c *chance) near(p plain) session.Letter {
	l := session.Letter{Mine: max(1, p.peer), Peer: p.mine, Ack: max(0, p.next-2+c.below(3))}
	if c.below(2) == 0 {
		l.Seq = max(1, p.got-1+c.below(5))
		l.Body = c.bytes(1 + c.below(9))
	}
	switch c.below(40) {
	case 0, 1:
		l.Mine = p.peer + 1 + c.below(3)
	case 2:
		l.Mine = p.peer - c.below(3)
	case 3:
		l.Peer = p.mine + c.below(3) - 1
	case 4:
		l.Peer = 0
	case 5:
		l.Ack = p.next + len(p.queue) - 2 + c.below(4)
	case 6:
		l.Ack = c.upto(41)
	case 7:
		l.Seq = c.upto(41)
	case 8:
		l.Body = c.bytes(c.below(3) * 500)
	case 9:
		l = c.letter()
	}
	return l
}

// any is any call; where most are pushes, the queue fills.
func (c *chance) any(p plain, most bool) step {
	n := c.below(10)
	switch {
	case c.below(50) == 0:
		return pushing(strings.Repeat("b", c.below(3)*500+c.below(2)))
	case n < 4 || most && n < 9:
		return pushing(string(c.bytes(1 + c.below(9))))
	}
	return taking(c.near(p))
}

// TestAnyCalls: P11.1, P1: any calls, one behind the other, held against a plain session.
func TestAnyCalls(t *testing.T) {
	c, seen := chance(1), map[answer]int{}
	for round := range 60 {
		b := two(t, 1+c.below(9))
		for i := range 400 {
			got, want := c.any(*b.p, round%3 == 0 && i < 200)(b)
			if got != want || !b.same() {
				t.Fatalf("call %d: %+v; want %+v; Len %d, Peer %d, Out %+v; want %+v", i, got, want, b.s.Len(), b.s.Peer(), b.s.Out(), *b.p)
			}
			got.body = ""
			seen[got]++
		}
	}
	for _, x := range []answer{{}, {e: api.ErrArg}, {e: api.ErrStale}, {e: api.ErrFull}, {taken: taken{reset: true}}, {taken: taken{got: true}}, {taken: taken{got: true, reset: true}}} {
		if seen[x] < 20 {
			t.Errorf("of %+v too few: %+v", x, seen)
		}
	}
}

// FuzzTake: P11.1, P1: any letter to a session that has something, and to one that has nothing; go test runs the seeds alone.
func FuzzTake(f *testing.F) {
	for _, l := range append(rightLetters(), wrongLetters()...) {
		f.Add(l.Mine, l.Peer, l.Ack, l.Seq, l.Body)
	}
	for _, l := range []session.Letter{from(), from(ack(5)), from(says(3, "b")), from(mine(8)), from(mine(10), says(1, "b")), from(peer(4), ack(5))} {
		f.Add(l.Mine, l.Peer, l.Ack, l.Seq, l.Body)
	}
	f.Fuzz(func(t *testing.T, m, p, a, n int, body []byte) {
		l := session.Letter{Mine: m, Peer: p, Ack: a, Seq: n, Body: body}
		for _, ahead := range [][]step{
			{},
			{pushing("a"), taking(from())},
			{taking(from(says(1, "one"))), taking(from(says(2, "two"))), pushing("x"), pushing("y"), pushing("z"), taking(from(ack(2)))},
		} {
			b := two(t, 5)
			for i, call := range append(ahead, taking(l), pushing(string(body)), taking(l)) {
				if got, want := call(b); got != want || !b.same() {
					t.Fatalf("%+v: call %d: %+v; want %+v, %+v", l, i, got, want, *b.p)
				}
			}
		}
	})
}

// FuzzCalls: as TestAnyCalls: calls of chance, from a number that the bytes tell; go test runs the seeds alone.
func FuzzCalls(f *testing.F) {
	f.Add([]byte{})
	f.Add([]byte("a session's calls"))
	f.Add([]byte(strings.Repeat("\x00\x07\xc8", 80)))
	f.Fuzz(func(t *testing.T, l []byte) {
		b, c := two(t, 1+len(l)%9), chance(len(l))
		for i, x := range l {
			c = c<<8 ^ chance(x) ^ c>>56
			if got, want := c.any(*b.p, x > 200)(b); got != want || !b.same() {
				t.Fatalf("%q: call %d: %+v; want %+v, %+v", l, i, got, want, *b.p)
			}
		}
	})
}

// TestSessionsAreApart: P2: the same calls of two sessions answer the same, whatever is done with others between.
func TestSessionsAreApart(t *testing.T) {
	c, d, between := chance(3), chance(3), chance(4)
	a, b, other := two(t, 5), two(t, 5), two(t, 5)
	for i := range 600 {
		x, _ := c.any(*a.p, i < 200)(a)
		between.any(*other.p, i > 300)(other)
		if y, _ := d.any(*b.p, i < 200)(b); x != y || !sameLetters(a.s.Out(), b.s.Out()) || a.s.Len() != b.s.Len() || a.s.Peer() != b.s.Peer() {
			t.Fatalf("call %d: %+v, then %+v; %+v, then %+v", i, x, y, a.s.Out(), b.s.Out())
		}
	}
}
