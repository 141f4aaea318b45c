package agent_test

import (
	"math"
	"slices"
	"strings"
	"testing"

	"rutter/agent"
	"rutter/api"
	"rutter/dpath"
	"rutter/ether"
	"rutter/session"
)

// chance tells numbers that look like any, always the same.
type chance uint64

func (c *chance) below(n int) int {
	*c = *c*6364136223846793005 + 1442695040888963407
	return int(uint64(*c) >> 33 % uint64(n))
}

// one is one of these.
func one[T any](c *chance, l ...T) T { return l[c.below(len(l))] }

// port is one of few, seldom any.
func (c *chance) port() int {
	if c.below(20) == 0 {
		return c.below(32)
	}
	return one(c, 0, 1, 2, 31)
}

// edge is a number at an edge of something.
func (c *chance) edge() int {
	return one(c, math.MinInt, -2, -1, 0, 1, 13, 15, 16, 31, 32, 255, 65536, 1<<32, 1<<32+1, 1<<40, 1<<40+1, 1<<48, math.MaxInt)
}

// flow is one of few.
func (c *chance) flow() api.Flow {
	f := nth(c.below(24))
	if c.below(2) == 0 {
		f = back(f)
	}
	return f
}

// pair is an agent, and a plain one to hold it against; now is where the time stands.
type pair struct {
	a   *agent.Agent
	p   *plain
	now int
}

// two are both, new.
func two(t testing.TB, chassis, boot, life int) *pair {
	t.Helper()
	return &pair{made(t, chassis, boot, life), plainNew(chassis, boot, life), noon}
}

// like checks that both tell the same.
func (b *pair) like(t testing.TB) {
	t.Helper()
	var out [][]byte
	for _, l := range b.p.out() {
		out = append(out, letter(t, l))
	}
	want := state{out, b.p.all(), b.p.living(math.MinInt), len(b.p.queue), b.p.peer, b.p.idle()}
	if got := stateOf(b.a); !got.equal(want) {
		t.Fatalf("%+v; want %+v", got, want)
	}
	for _, now := range []int{0, b.now, b.now + 5, 1<<40 - 1, 1 << 40} {
		if got, want := b.a.Records(now), b.p.living(now); !slices.Equal(got, want) {
			t.Fatalf("at %d: %+v; want %+v", now, got, want)
		}
	}
}

// answer is what a call told.
type answer struct {
	o dpath.Outcome
	e api.Errno
}

// time is when the next call is: most often now, or a little later.
func (c *chance) time(b *pair) int {
	switch c.below(60) {
	case 0:
		return c.edge()
	case 1:
		return one(c, 0, 1<<40-1, 1<<40, -1, 1<<40+1)
	case 2, 3:
		return max(0, b.now-c.below(20))
	case 4:
		b.now += 20
	}
	b.now += c.below(8) / 7
	return b.now
}

// row is one of a port, most often a later one than that which is there.
func (c *chance) row(b *pair) api.Row {
	port := c.port()
	was := b.p.rows[port]
	x, y := one(c, b.p.chassis, 0, 7, 9), one(c, b.p.chassis, 15, 8)
	if x == y {
		y = 14
	}
	if c.below(2) == 0 {
		x, y = y, x
	}
	gen, ver := max(1, was.Gen+c.below(3)-c.below(2)), max(1, was.Ver+one(c, -1, 0, 1, 1, 1, 1, 2, 3))
	r := one(c, bound(port, x, gen, ver), moving(port, x, y, gen, ver), moving(port, x, b.p.chassis, gen, ver), moved(port, x, y, gen, ver), moved(port, x, b.p.chassis, gen, ver), gone(port, gen, ver))
	if c.below(8) == 0 {
		r.MAC = mac(one(c, 0, 1, 2, 31))
	}
	return r
}

// message is any body: most often that of a message.
func (c *chance) message(t testing.TB, b *pair) []byte {
	t.Helper()
	m := ofAwake(c.port(), 1+c.below(9))
	switch n := c.below(20); {
	case n == 0:
		return []byte(strings.Repeat("x", 1+c.below(1000)))
	case n < 13:
		for {
			m = ofRow(c.row(b))
			if r := m.Row; r.Owner != r.Target && r.Owner != r.Old || r.Phase == api.Gone || r.Phase == api.Bound {
				break
			}
		}
	case n < 18:
		m = ofFlows(c.port(), 1+c.below(9))
		for range c.below(17) {
			m.Records = append(m.Records, until(max(0, b.now-3+c.below(20)), c.flow()))
		}
	}
	all := body(t, m)
	if c.below(30) == 0 {
		all[c.below(len(all))] ^= byte(1 + c.below(255))
	}
	return all
}

// letter is any letter's bytes: most often that of the letter that comes next.
func (c *chance) letter(t testing.TB, b *pair) []byte {
	t.Helper()
	p := b.p
	l := session.Letter{Mine: max(1, p.peer), Peer: p.mine, Ack: max(0, p.next-2+c.below(4))}
	if c.below(5) > 0 {
		l.Seq, l.Body = p.got+1, c.message(t, b)
	}
	switch c.below(60) {
	case 0, 1:
		l.Mine = p.peer + 1 + c.below(2)
		if l.Seq != 0 && c.below(2) == 0 {
			l.Seq = 1
		}
	case 2:
		l.Mine = max(1, p.peer-1)
	case 3:
		l.Peer = max(0, p.mine+one(c, -1, 1, -p.mine))
	case 4:
		l.Ack = p.next + len(p.queue)
	case 5:
		l.Seq, l.Body = max(1, p.got+one(c, -1, 0, 2)), c.message(t, b)
	}
	all := letter(t, l)
	switch c.below(60) {
	case 0:
		all[c.below(len(all))] ^= byte(1 + c.below(255))
	case 1:
		all = all[:c.below(len(all))]
	}
	return all
}

// frame is any guest's frame.
func (c *chance) frame(t testing.TB) api.Frame {
	t.Helper()
	f := api.Frame{Dst: mac(c.port()), Src: mac(c.port()), Type: one(c, 0, api.TypeIPv4, api.TypeARP, api.TypeRARP), Load: make([]byte, c.below(60))}
	switch n := c.below(20); {
	case n < 7:
		f = one(c, announcements(t, mac(c.port()))...)
		if c.below(2) == 0 {
			f.Dst = mac(c.port())
		}
	case n < 15:
		f = talks(t, mac(c.port()), c.flow())
		if c.below(20) == 0 {
			f.Load[c.below(len(f.Load))] ^= byte(1 + c.below(255))
		}
	case n == 15:
		f.Type = c.edge()
	case n == 16:
		f.Load = make([]byte, one(c, 1499, 1500, 1501))
	}
	return f
}

// packet is any packet, most often one that goes to the agent's chassis.
func (c *chance) packet(t testing.TB, b *pair) api.Packet {
	t.Helper()
	f := c.frame(t)
	p := api.Packet{Kind: one(c, api.Normal, api.Forward), Origin: c.below(16), From: c.below(16), To: b.p.chassis, Port: c.port(), Gen: 1 + c.below(6), ID: c.below(1 << 20)}
	p.Gen = max(1, b.p.rows[p.Port].Gen-1+c.below(3))
	if p.Kind == api.Normal {
		p.From = p.Origin
	}
	if ether.Right(f) {
		p.Frame = raw(t, f)
	}
	switch c.below(80) {
	case 0:
		p.To = c.below(16)
	case 1:
		p.Gen = c.edge()
	case 2:
		p.Port = c.edge()
	case 3:
		p.ID = c.edge()
	case 4:
		p.Kind = api.Kind(c.edge())
	}
	return p
}

// does is any call of both; it tells what each answered.
func (c *chance) does(t testing.TB, b *pair, pushes bool) (answer, answer) {
	t.Helper()
	now := c.time(b)
	n := c.below(10)
	switch {
	case pushes && n < 5 || n == 0 && c.below(10) == 0:
		x := make([]byte, one(c, 0, 1, 2, 3, 999, 1000, 1001))
		return answer{e: b.a.Push(x)}, answer{e: b.p.push(x)}
	case n < 5:
		x := c.letter(t, b)
		return answer{e: b.a.Take(x, now)}, answer{e: b.p.take(x, now)}
	case n < 8:
		f, id := c.frame(t), c.below(1<<20)
		if c.below(40) == 0 {
			id = c.edge()
		}
		o, e := b.a.Guest(f, now, id)
		want, we := b.p.guest(f, now, id)
		return answer{o, e}, answer{want, we}
	}
	x := c.packet(t, b)
	o, e := b.a.Tunnel(x, now)
	want, we := b.p.tunnel(x, now)
	return answer{o, e}, answer{want, we}
}

// TestAnyCalls: P16.1, P1: any calls, one behind the other, held against a plain agent.
func TestAnyCalls(t *testing.T) {
	c, seen := chance(1), map[[2]int]int{}
	told, full, crowded := 0, 0, 0
	for round := range 120 {
		b := two(t, one(&c, 0, here, 15), 1+c.below(4), 1+c.below(30))
		for i := range 400 {
			got, want := c.does(t, b, round%4 == 0 && i < 200)
			if !same(got.o, want.o) || got.e != want.e {
				t.Fatalf("round %d: call %d: %+v; want %+v", round, i, got, want)
			}
			b.like(t)
			seen[[2]int{got.o.Kind, int(got.e)}]++
			told = max(told, len(b.p.told))
			if len(b.p.queue) == 64 {
				full++
			}
			if len(b.p.records) == 16 {
				crowded++
			}
		}
	}
	for _, k := range [][2]int{{0, 0}, {0, int(api.ErrArg)}, {0, int(api.ErrForm)}, {0, int(api.ErrStale)}, {0, int(api.ErrFull)}, {1, 0}, {2, 0}} {
		if seen[k] < 100 {
			t.Errorf("of %v too few: %v", k, seen)
		}
	}
	if told < 5 || full < 500 || crowded < 500 {
		t.Errorf("told at most %d, with a full queue %d, with a full table %d", told, full, crowded)
	}
}

// FuzzTake: P16.1, P1: any bytes at an agent that has something, and at one that has nothing; go test runs the seeds alone.
func FuzzTake(f *testing.F) {
	for _, m := range []api.Message{ofRow(bound(1, here, 3, 3)), ofRow(moved(3, 4, here, 2, 9)), ofAwake(2, 4), ofFlows(1, 2, many(16, 150)...)} {
		f.Add(letter(f, session.Letter{Mine: far, Peer: boot, Ack: 1, Seq: 1, Body: body(f, m)}), noon)
		f.Add(letter(f, session.Letter{Mine: far, Peer: boot, Ack: 2, Seq: 4, Body: body(f, m)}), noon+60)
		f.Add(letter(f, session.Letter{Mine: far + 1, Peer: boot, Seq: 1, Body: body(f, m)}), -1)
	}
	f.Add([]byte{}, 0)
	f.Add(make([]byte, 24), 1<<40)
	f.Fuzz(func(t *testing.T, x []byte, now int) {
		for _, n := range []int{0, 3} {
			b := two(t, here, boot, life)
			for i, r := range []api.Row{bound(1, here, 2, 2), moving(2, 4, here, 1, 4), moved(3, 4, here, 2, 6)}[:n] {
				y := letter(t, session.Letter{Mine: far, Peer: boot, Seq: i + 1, Body: body(t, ofRow(r))})
				if got, want := b.a.Take(y, noon), b.p.take(y, noon); got != want {
					t.Fatalf("%d; want %d", got, want)
				}
			}
			g := rarp(t, mac(2))
			b.a.Guest(g, noon, 1)
			b.p.guest(g, noon, 1)
			for range 2 {
				if got, want := b.a.Take(x, now), b.p.take(x, now); got != want {
					t.Fatalf("%x at %d: %d; want %d", x, now, got, want)
				}
				b.like(t)
			}
		}
	})
}

// FuzzCalls: as TestAnyCalls: calls of chance, from a number that the bytes tell; go test runs the seeds alone.
func FuzzCalls(f *testing.F) {
	f.Add([]byte{})
	f.Add([]byte("an agent's calls"))
	f.Add([]byte(strings.Repeat("\x00\x07\xc8", 60)))
	f.Fuzz(func(t *testing.T, l []byte) {
		b, c := two(t, len(l)%16, 1+len(l)%9, 1+len(l)%30), chance(len(l))
		for i, x := range l {
			c = c<<8 ^ chance(x) ^ c>>56
			got, want := c.does(t, b, x > 200)
			if !same(got.o, want.o) || got.e != want.e {
				t.Fatalf("%q: call %d: %+v; want %+v", l, i, got, want)
			}
			b.like(t)
		}
	})
}

// TestAgentsAreApart: P2: the same calls of two agents answer the same, whatever is done with others between.
func TestAgentsAreApart(t *testing.T) {
	c, d, between := chance(3), chance(3), chance(4)
	a, b, other := two(t, here, boot, life), two(t, here, boot, life), two(t, here, boot, life)
	for i := range 2000 {
		x, _ := c.does(t, a, i%400 < 100)
		between.does(t, other, i%400 > 300)
		y, _ := d.does(t, b, i%400 < 100)
		if !same(x.o, y.o) || x.e != y.e || !stateOf(a.a).equal(stateOf(b.a)) {
			t.Fatalf("call %d: %+v, then %+v", i, x, y)
		}
	}
}
