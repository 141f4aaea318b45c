package ctl_test

import (
	"bytes"
	"fmt"
	"math"
	"slices"
	"strings"
	"testing"

	"rutter/api"
	"rutter/control"
	"rutter/ctl"
	"rutter/disk"
	"rutter/session"
)

// chance tells numbers that look like any, always the same.
type chance uint64

func (c *chance) below(n int) int {
	*c = *c*6364136223846793005 + 1442695040888963407
	return int(uint64(*c) >> 33 % uint64(n))
}

// one is one of these.
func one[T any](c *chance, l ...T) T { return l[c.below(len(l))] }

// edge is a number at an edge of something.
func (c *chance) edge() int {
	return one(c, math.MinInt, -2, -1, 0, 1, 13, 15, 16, 31, 32, 255, 65536, 1<<32, 1<<32+1, 1<<40, 1<<40+1, 1<<48, math.MaxInt)
}

// port and host are one of few, seldom any.
func (c *chance) port() int {
	if c.below(20) == 0 {
		return c.below(32)
	}
	return one(c, 0, 1, 2, 31)
}

func (c *chance) host() int {
	if c.below(20) == 0 {
		return c.below(16)
	}
	return one(c, 0, 1, 2, 15)
}

// pair is a controller, and a plain one to hold it against, with their files; boots are those of the agents, which acknowledge little, if they are slow.
type pair struct {
	c     *ctl.Ctl
	f     *disk.File
	p     *plain
	boots [16]int
	slow  bool
}

// two are both, on files that have this.
func two(t testing.TB, room int, text string) *pair {
	t.Helper()
	f := file(t, max(room, len(text)), text)
	b := &pair{f: f, p: &plain{p: &paper{text, len(text), max(room, len(text))}}}
	for i := range b.boots {
		b.boots[i] = 1
	}
	b.opens(t, span, noon)
	return b
}

// opens opens both; if there is an error, they go on with none.
func (b *pair) opens(t testing.TB, span, now int) bool {
	t.Helper()
	c, e := ctl.Open(b.f, span, now)
	p, want := plainOpen(b.p.p, span, now)
	if e != want || (c == nil) != (p == nil) {
		t.Fatalf("Open %d at %d: %d; want %d", span, now, e, want)
	}
	if got := string(b.f.Bytes()); got != b.p.p.all || b.f.Safe() != b.p.p.safe {
		t.Fatalf("Open %d at %d: the file has %x, %d safe; want %x, %d", span, now, got, b.f.Safe(), b.p.p.all, b.p.p.safe)
	}
	if c == nil {
		return false
	}
	b.c, b.p = c, p
	return true
}

// like checks that both tell the same.
func (b *pair) like(t testing.TB) {
	t.Helper()
	if got, want := look(b.c, b.f), b.p.look(t); got != want {
		t.Fatalf("%s; want %s", got, want)
	}
}

// look tells of a plain one what the other tells.
func (c *plain) look(t testing.TB) string {
	t.Helper()
	var out strings.Builder
	fmt.Fprintf(&out, "%+v %d boot %d file %x safe %d", c.all(), c.chassis(), c.boot, c.p.all, c.p.safe)
	for n := -1; n <= 16; n++ {
		var l [][]byte
		for _, x := range c.out(n) {
			l = append(l, letter(t, x))
		}
		fmt.Fprintf(&out, "; %d: %x %v", n, l, c.idle(n))
	}
	return out.String()
}

// call is any call: most often one on what is there.
func (c *chance) call(b *pair) api.Call {
	x := api.Call{Op: api.Op(2 + c.below(5)), Port: c.port(), Chassis: c.host(), MAC: mac(c.port())}
	r := b.p.rows[x.Port]
	switch c.below(4) {
	case 0:
		x.Op = one(c, api.AddChassis, api.AddChassis, api.RemoveChassis, api.Query)
	case 1:
		if r.Ver == 0 || r.Phase == api.Gone {
			x.Op, x.MAC = api.AddPort, mac(x.Port)
		} else if r.Phase == api.Bound {
			x.Op = one(c, api.Start, api.Start, api.RemovePort)
		} else {
			x.Op = one(c, api.Commit, api.Abort)
		}
	}
	switch c.below(60) {
	case 0:
		x.Op = api.Op(c.edge())
	case 1:
		x.Port = c.edge()
	case 2:
		x.Chassis = c.edge()
	case 3:
		x.MAC = uint64(c.edge())
	}
	return x
}

// body is any body: most often a message that an agent may tell.
func (c *chance) body(t testing.TB, b *pair, n int) []byte {
	t.Helper()
	port := c.port()
	r := b.p.rows[port]
	ver := max(1, r.Ver+one(c, 0, 0, 0, -1, 1))
	var all []byte
	switch k := c.below(20); {
	case k == 0:
		return []byte(strings.Repeat("x", 1+c.below(1000)))
	case k == 1:
		return []byte(one(c, ofRow(bound(port, n, 1, 1)), ofAdded(n), ofBoot(9)))
	case k < 10:
		all = body(t, aTracked(port, ver, flows(c.below(17))...))
	default:
		for p, x := range b.p.rows {
			if x.Phase == api.Moving && x.Target == n && c.below(3) > 0 {
				port, ver = p, x.Ver
			}
		}
		all = body(t, anAwake(port, ver))
	}
	if c.below(30) == 0 {
		all[c.below(len(all))] ^= byte(1 + c.below(255))
	}
	return all
}

// letter is any letter's bytes of a chassis: most often the one that comes next.
func (c *chance) letter(t testing.TB, b *pair, n int) []byte {
	t.Helper()
	w, mine := &b.p.lines[n], b.boots[n]
	l := session.Letter{Mine: mine, Peer: b.p.boot, Ack: max(0, w.next-1+c.below(9))}
	if b.slow {
		l.Ack = max(0, w.next-1+one(c, 0, 0, 0, 0, 0, 0, 0, 0, 0, 1, 8, 63, 64))
	}
	if w.peer != mine {
		l.Ack = 0
	}
	if c.below(3) > 0 {
		l.Seq, l.Body = w.got+1, c.body(t, b, n)
		if w.peer != mine {
			l.Seq = 1
		}
	}
	switch c.below(40) {
	case 0:
		b.boots[n]++
		l.Mine++
	case 1:
		l.Mine = max(1, w.peer-1)
	case 2:
		l.Peer = max(0, b.p.boot+one(c, -1, 1))
	case 3:
		l.Seq, l.Body = max(1, w.got+one(c, -1, 0, 2)), c.body(t, b, n)
	}
	all := letter(t, l)
	switch c.below(60) {
	case 0:
		all[c.below(len(all))] ^= byte(1 + c.below(255))
	case 1:
		all = all[:c.below(len(all))]
	}
	return all
}

// answer is what a call told.
type answer struct {
	r api.Row
	m api.Message
	e api.Errno
}

func (a answer) same(b answer) bool {
	return a.r == b.r && control.Same(a.m, b.m) && a.e == b.e
}

// time is when the next tick is.
func (c *chance) time(b *pair) int {
	switch c.below(30) {
	case 0:
		return c.edge()
	case 1:
		return b.p.now - 1
	}
	return b.p.now + c.below(4)
}

// anew crashes both files, and opens both again; with an error they go on as they were.
func (c *chance) anew(t testing.TB, b *pair) {
	t.Helper()
	keep := one(c, math.MinInt, -1, 0, 0, c.below(40), c.below(40), 34, 35, math.MaxInt)
	b.f.Crash(keep)
	b.p.p.crash(keep)
	if c.below(10) == 0 {
		b.opens(t, c.edge(), c.edge())
	}
	b.opens(t, one(c, span, span, 1, 30), b.p.now+c.below(3))
}

// does is any call of both; it tells what each answered.
func (c *chance) does(t testing.TB, b *pair) (answer, answer) {
	t.Helper()
	k := c.below(200)
	if b.slow && k < 3 && c.below(10) > 0 {
		k = 3 // with few crashes queues become long
	}
	switch {
	case b.p.stopped && k < 40:
		c.anew(t, b)
		return answer{}, answer{}
	case k < 2:
		x := c.call(b)
		return answer{e: b.c.Half(x)}, answer{e: b.p.half(x)}
	case k == 2:
		c.anew(t, b)
		return answer{}, answer{}
	case k < 70:
		x := c.call(b)
		r, e := b.c.Do(x)
		want, we := b.p.do(x)
		return answer{r: r, e: e}, answer{r: want, e: we}
	case k < 80:
		now := c.time(b)
		return answer{e: b.c.Tick(now)}, answer{e: b.p.tick(now)}
	}
	n := c.host()
	x := c.letter(t, b, n)
	if c.below(60) == 0 {
		n = c.edge()
	}
	m, e := b.c.Take(n, x)
	want, we := b.p.take(n, x)
	return answer{m: m, e: e}, answer{m: want, e: we}
}

// peopled is the text of a file on which there are a few chassis and rows.
func peopled() string {
	return whole(append(hosts(3), ofAdded(15), ofRow(bound(0, 0, 1, 1)), ofRow(moving(1, 1, 2, 3, 5)), ofRow(gone(2, 2, 2)))...)
}

// TestAnyCalls: P17.1, P1: any calls, crashes and openings, one behind the other, held against a plain controller, with much room and with little.
func TestAnyCalls(t *testing.T) {
	c, seen := chance(1), map[string]int{}
	for round := range 60 {
		b := two(t, one(&c, much, much, 900, 2000, 4000), []string{"", peopled()}[round%2])
		calls := 400
		if round%4 == 0 {
			b.slow, calls = true, 1500
		}
		for i := range calls {
			got, want := c.does(t, b)
			if !got.same(want) {
				t.Fatalf("round %d: call %d: %+v; want %+v", round, i, got, want)
			}
			b.like(t)
			seen[fmt.Sprint("error ", got.e)]++
			seen[fmt.Sprint("kind ", got.m.Kind)]++
			for _, w := range b.p.lines {
				if w.behind && w.peer > 0 {
					seen["behind"]++
				}
				if len(w.queue) == 64 {
					seen["full"]++
				}
			}
			if b.p.stopped {
				seen["stopped"]++
			}
			for _, r := range b.p.rows {
				seen[fmt.Sprint("phase ", r.Phase)]++
			}
		}
		seen["boots"] += b.p.boot
	}
	for k, least := range map[string]int{
		"error 0": 9000, "error 1": 200, "error 2": 100, "error 3": 100, "error 4": 200, "error 5": 200, "error 7": 200, "error 8": 200, "error 9": 40, "error 11": 20, "error 13": 100,
		"kind 1": 50, "kind 2": 500, "kind 3": 500, "behind": 500, "full": 100, "stopped": 150, "phase 1": 500, "phase 2": 500, "phase 3": 500, "boots": 200,
	} {
		if seen[k] < least {
			t.Errorf("of %s too few: %v", k, seen)
		}
	}
}

// FuzzOpen: K1, P1: any bytes of a file, at any span and time; go test runs the seeds alone.
func FuzzOpen(f *testing.F) {
	f.Add([]byte{}, 1, 0)
	f.Add([]byte(peopled()), span, noon+span)
	f.Add([]byte(peopled()+"torn"), span, 1<<40)
	f.Add([]byte(whole(ofBoot(1<<32), ofAdded(1), ofAdded(1))), 1<<31, 1<<40)
	f.Add([]byte(whole(append(hosts(3), ofRow(moved(3, 1, 2, 1, 1<<40-1)), ofRow(gone(3, 1, 1<<40)))...)), 0, -1)
	f.Fuzz(func(t *testing.T, x []byte, span, now int) {
		for _, room := range []int{0, 11, 12, 500} {
			b := &pair{f: file(t, len(x)+room, string(x)), p: &plain{p: &paper{string(x), len(x), len(x) + room}}}
			for range 2 {
				if !b.opens(t, span, now) {
					break
				}
				b.like(t)
			}
		}
	})
}

// FuzzBodies: as FuzzOpen, of bodies with their sums, behind some that are right; go test runs the seeds alone.
func FuzzBodies(f *testing.F) {
	for _, s := range steps() {
		f.Add([]byte(s.record), []byte(ofBoot(3)))
	}
	f.Add([]byte(ofRow(bound(1, 0, 1, 1<<40))), []byte(ofRow(gone(1, 1<<32, 1<<40))))
	f.Fuzz(func(t *testing.T, x, y []byte) {
		if len(x) < 1 || len(x) > 200 || len(y) < 1 || len(y) > 200 {
			return
		}
		text := peopled() + whole(string(x), string(y))
		b := &pair{f: file(t, much, text), p: &plain{p: &paper{text, len(text), much}}}
		if b.opens(t, span, noon) {
			b.like(t)
		}
	})
}

// FuzzTake: K2, P1: any bytes of any chassis, at a controller that has something; go test runs the seeds alone.
func FuzzTake(f *testing.F) {
	for _, b := range []string{string(ofAdded(2)), ofRow(bound(1, 0, 3, 3)), "\x02\x01" + figures(6, 5), "\x03\x01" + figures(6, 5) + "\x00"} {
		f.Add(2, letter(f, session.Letter{Mine: boot, Peer: 1, Ack: 1, Seq: 1, Body: []byte(b)}))
		f.Add(2, letter(f, session.Letter{Mine: boot + 1, Peer: 2, Ack: 9, Seq: 2, Body: []byte(b)}))
	}
	f.Add(-1, []byte{})
	f.Add(15, make([]byte, 24))
	f.Fuzz(func(t *testing.T, n int, x []byte) {
		b := two(t, much, peopled())
		for _, i := range []int{2, 15} {
			y := letter(t, session.Letter{Mine: boot, Peer: 1})
			b.c.Take(i, y)
			b.p.take(i, y)
		}
		for range 2 {
			m, e := b.c.Take(n, x)
			want, we := b.p.take(n, x)
			if !control.Same(m, want) || e != we {
				t.Fatalf("%d, %x: %+v, %d; want %+v, %d", n, x, m, e, want, we)
			}
			b.like(t)
		}
	})
}

// FuzzCalls: as TestAnyCalls: calls of chance, from a number that the bytes tell; go test runs the seeds alone.
func FuzzCalls(f *testing.F) {
	f.Add([]byte{})
	f.Add([]byte("a controller's calls"))
	f.Add(slices.Repeat([]byte{0, 7, 200, 9}, 40))
	f.Fuzz(func(t *testing.T, l []byte) {
		b, c := two(t, 800+16*len(l), peopled()), chance(len(l))
		for i, x := range l {
			c = c<<8 ^ chance(x) ^ c>>56
			got, want := c.does(t, b)
			if !got.same(want) {
				t.Fatalf("%q: call %d: %+v; want %+v", l, i, got, want)
			}
			b.like(t)
		}
	})
}

// TestApart: P2: the same calls of two controllers answer the same, whatever is done with others between.
func TestApart(t *testing.T) {
	c, d, between := chance(3), chance(3), chance(4)
	a, b, other := two(t, much, peopled()), two(t, much, peopled()), two(t, 900, peopled())
	for i := range 1000 {
		x, _ := c.does(t, a)
		between.does(t, other)
		y, _ := d.does(t, b)
		if !x.same(y) || look(a.c, a.f) != look(b.c, b.f) || !bytes.Equal(a.f.Bytes(), b.f.Bytes()) {
			t.Fatalf("call %d: %+v, then %+v", i, x, y)
		}
	}
}
