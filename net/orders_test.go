package net_test

import (
	"slices"
	"strconv"
	"testing"

	"rutter/api"
	"rutter/net"
)

// pair is a net, and a plain one to hold it against.
type pair struct {
	n *net.Net
	p *plain
}

func two(t *testing.T, room int) pair {
	t.Helper()
	return pair{made(t, room), &plain{room: room}}
}

// answer is what a call told: of Put how many, of all others an error, of some an item.
type answer struct {
	number int
	x      one
}

// String tells it in short.
func (a answer) String() string { return strconv.Itoa(a.number) + ", " + a.x.String() }

// step is a call of both; it tells what each answered.
type step func(b pair) (answer, answer)

func putting(l ...one) step {
	return func(b pair) (answer, answer) {
		return answer{number: b.n.Put(items(l...)...)}, answer{number: b.p.put(l...)}
	}
}

// taking writes into what it took, too, since that is nobody's any more.
func taking(i int) step {
	return func(b pair) (answer, answer) {
		x, e := b.n.Take(i)
		got := answer{int(e), told(x)}
		spoil(x.Bytes, '!')
		y, e := b.p.take(i)
		return got, answer{int(e), y}
	}
}

func doubling(i int) step {
	return func(b pair) (answer, answer) {
		return answer{number: int(b.n.Double(i))}, answer{number: int(b.p.double(i))}
	}
}

// looking writes into what it was told, too.
func looking(i int) step {
	return func(b pair) (answer, answer) {
		x, e := b.n.At(i)
		got := answer{int(e), told(x)}
		spoil(x.Bytes, '!')
		y, e := b.p.at(i)
		return got, answer{int(e), y}
	}
}

func finding(kind, chassis int) step {
	return func(b pair) (answer, answer) {
		return answer{number: b.n.Find(kind, chassis)}, answer{number: b.p.find(kind, chassis)}
	}
}

// few are calls with little in them, of which each order has another end.
func few() []step {
	a, b, c, wrong := one{0, 3, "a"}, one{1, 3, "bb"}, one{0, 3, ""}, one{3, 3, "wrong"}
	return []step{
		putting(), putting(a), putting(b, c), putting(wrong, a, wrong), putting(a, b, c),
		taking(0), taking(1), taking(2), taking(-1), doubling(0), doubling(1), doubling(3), looking(1), finding(0, 3),
	}
}

// TestOrders: P18.1: all orders of up to four of these calls, of nets with little room.
func TestOrders(t *testing.T) {
	steps := few()
	for room := range 5 {
		for long, orders := 1, len(steps); long <= 4; long, orders = long+1, orders*len(steps) {
			for order := range orders {
				b := two(t, room)
				for left, i := order, 0; i < long; left, i = left/len(steps), i+1 {
					if got, want := steps[left%len(steps)](b); got != want {
						t.Fatalf("room %d, order %d: call %d, %d: %v; want %v, %v", room, order, i, left%len(steps), got, want, *b.p)
					}
				}
				if b.n.Len() != len(b.p.items) || b.n.Lost() != b.p.lost || !slices.Equal(lists(b.n), b.p.items) {
					t.Fatalf("room %d, order %d: %v, %d lost; want %v", room, order, short(lists(b.n)), b.n.Lost(), *b.p)
				}
			}
		}
	}
}

// chance tells numbers that look like chance, the same in each run.
type chance uint64

func (c *chance) below(n int) int {
	*c = *c*6364136223846793005 + 1442695040888963407
	return int(uint64(*c) >> 33 % uint64(n))
}

// one is any item, seldom one that may not be, with a number by which it is told from others.
func (c *chance) one(i int) one {
	x := one{c.below(3), c.below(16), strconv.Itoa(i) + " " + long(c.below(40))}
	switch c.below(30) {
	case 0:
		x.kind = c.below(7) - 3
	case 1:
		x.chassis = c.below(40) - 10
	case 2:
		x.text = strconv.Itoa(i) + " " + long(1990+c.below(10))
	}
	return x
}

// ones are up to so many items.
func (c *chance) ones(most, i int) []one {
	l := make([]one, c.below(most+1))
	for k := range l {
		l[k] = c.one(100*i + k)
	}
	return l
}

// place is one of a net of so many items, or one just beside them, seldom any.
func (c *chance) place(size int) int {
	if c.below(40) == 0 {
		return c.below(1<<31)<<c.below(33) - c.below(1<<20)
	}
	return c.below(size+3) - 1
}

// any is any call of a net of so many items, the i-th one.
func (c *chance) any(size, i int) step {
	switch c.below(9) {
	case 0, 1:
		return putting(c.ones(1, i)...)
	case 2:
		return putting(c.ones(9, i)...)
	case 3, 4:
		return taking(c.place(size))
	case 5:
		return taking(0)
	case 6:
		return doubling(c.place(size))
	case 7:
		return looking(c.place(size))
	}
	return finding(c.below(5)-1, c.below(18)-1)
}

// TestAnyCalls: P18.1, P1: any calls, one behind the other, held against a plain net.
func TestAnyCalls(t *testing.T) {
	c, sizes, full, none := chance(1), map[int]int{}, 0, 0
	for range 40 {
		b := two(t, c.below(30))
		for i := range 300 {
			got, want := c.any(len(b.p.items), i)(b)
			if got != want || !like(b.n, b.p) {
				t.Fatalf("call %d: %v; want %v; %v; want %v", i, got, want, short(lists(b.n)), *b.p)
			}
			sizes[len(b.p.items)]++
			if len(b.p.items) == b.p.room {
				full++
			}
			if len(b.p.items) == 0 {
				none++
			}
		}
	}
	for n := range 20 {
		if sizes[n] < 50 {
			t.Errorf("of %d items too few: %v", n, sizes)
		}
	}
	if full < 500 || none < 200 {
		t.Errorf("full %d times, empty %d times", full, none)
	}
}

// ledger is what was done with a net, item by item.
type ledger struct {
	put, came, doubled, taken int
	there                     map[one]int // how many there must be, of each
}

// TestSum: P18.2: what is taken was put, as it was, or is one more like it; as many are there, taken and lost as were put, and doubled.
func TestSum(t *testing.T) {
	c, sums := chance(2), ledger{}
	for range 60 {
		n, g := made(t, c.below(40)), ledger{there: map[one]int{}}
		for i := range 400 {
			switch c.below(4) {
			case 0:
				g.puts(t, n, c.ones(7, i))
			case 1:
				g.doubles(n, c.place(n.Len()))
			case 2:
				g.takes(t, n, c.place(n.Len()))
			case 3:
				g.takes(t, n, 0)
			}
			if n.Len()+g.taken+n.Lost() != g.put+g.doubled {
				t.Fatalf("call %d: %d there, %d taken, %d lost; %d put, %d doubled", i, n.Len(), g.taken, n.Lost(), g.put, g.doubled)
			}
		}
		sums.put, sums.came, sums.doubled, sums.taken = sums.put+g.put, sums.came+g.came, sums.doubled+g.doubled, sums.taken+g.taken
		g.empties(t, n)
	}
	if sums.came < 4000 || sums.put-sums.came < 4000 || sums.doubled < 1000 || sums.taken < 4000 {
		t.Errorf("too few: %d put, of which %d came in, %d doubled, %d taken", sums.put, sums.came, sums.doubled, sums.taken)
	}
}

// puts puts items, one by one, so that it is told which of them came in.
func (g *ledger) puts(t *testing.T, n *net.Net, l []one) {
	t.Helper()
	for _, x := range l {
		came := n.Put(x.item())
		g.put++
		g.came += came
		g.there[x] += came
	}
}

func (g *ledger) doubles(n *net.Net, i int) {
	if x, _ := n.At(i); n.Double(i) == api.OK {
		g.doubled++
		g.there[told(x)]++
	}
}

func (g *ledger) takes(t *testing.T, n *net.Net, i int) {
	t.Helper()
	x, e := n.Take(i)
	if e != api.OK {
		return
	}
	g.taken++
	g.there[told(x)]--
	if g.there[told(x)] < 0 {
		t.Errorf("taken, but never put, or not so often: %v", told(x))
	}
}

// empties takes all that is left, behind which nothing may be missing.
func (g *ledger) empties(t *testing.T, n *net.Net) {
	t.Helper()
	for range n.Len() {
		g.takes(t, n, n.Len()/2)
	}
	for x, left := range g.there {
		if left != 0 {
			t.Errorf("put, but neither there nor taken, %d times: %v", left, x)
		}
	}
}

// TestInOrder: P18.2: if always the first one is taken, they come in the order in which they were put, with what was lost left out, and what was doubled as if it were put then.
func TestInOrder(t *testing.T) {
	c := chance(3)
	for round := range 60 {
		n, came, next := made(t, 1+c.below(40)), []one{}, 0
		for i := range 500 {
			switch x := c.one(i); {
			case c.below(5) == 0 && round%2 == 0:
				place := c.place(n.Len())
				if y, _ := n.At(place); n.Double(place) == api.OK {
					came = append(came, told(y))
				}
			case c.below(2) == 0:
				if n.Put(x.item()) == 1 {
					came = append(came, x)
				}
			case next < len(came):
				takes(t, n, 0, came[next])
				next++
			}
		}
		for _, x := range came[next:] {
			takes(t, n, 0, x)
		}
		if n.Len() != 0 || len(came) < 50 {
			t.Errorf("round %d: %d came, %d are left", round, len(came), n.Len())
		}
	}
}

// TestAtOnceOrOneByOne: P18.1: items that are put in one call come in, and are lost, as if each were put alone.
func TestAtOnceOrOneByOne(t *testing.T) {
	c := chance(4)
	for round := range 300 {
		room, l := c.below(12), c.ones(20, round)
		a, b, came := made(t, room), made(t, room), 0
		for _, x := range l {
			came += b.Put(x.item())
		}
		puts(t, a, came, l...)
		if a.Lost() != len(l)-came || b.Lost() != a.Lost() || !slices.Equal(lists(a), lists(b)) {
			t.Fatalf("round %d: %v, %d lost; %v, %d lost", round, short(lists(a)), a.Lost(), short(lists(b)), b.Lost())
		}
	}
}

// FuzzItems: P18.1, P18.2, P1: any item, any place, in any net; go test runs the seeds alone.
func FuzzItems(f *testing.F) {
	for i, x := range append(rightItems(), wrongItems()...) {
		f.Add(x.kind, x.chassis, []byte(x.text), i%5, i%4-1)
	}
	for _, room := range []int{-1, 0, 1, 4096, 4097} {
		f.Add(1, 7, []byte("a net"), room, 1)
		f.Add(2, 15, []byte("a net"), room, room)
	}
	f.Fuzz(func(t *testing.T, kind, chassis int, bytes []byte, room, i int) {
		if n, e := net.New(room); (e == api.OK) != (room >= 0 && room <= 4096) || (n == nil) != (e != api.OK) {
			t.Fatalf("New(%d): %d", room, e)
		} else if n == nil {
			return
		}
		x, b := one{kind, chassis, string(bytes)}, two(t, room)
		for k, call := range []step{
			looking(i), putting(x), doubling(i), putting(nth(1), x, x), looking(i), finding(kind, chassis), finding(i, chassis), doubling(i), taking(i), doubling(0),
			putting(x), taking(i), finding(kind, i), taking(0), doubling(i), taking(i), finding(1, 1), putting(x, nth(1)),
		} {
			if got, want := call(b); got != want || !like(b.n, b.p) {
				t.Fatalf("call %d: %v; want %v; %v; want %v", k, got, want, short(lists(b.n)), *b.p)
			}
		}
	})
}

// FuzzCalls: as TestAnyCalls: calls of chance, from a number that the bytes tell; go test runs the seeds alone.
func FuzzCalls(f *testing.F) {
	f.Add([]byte{})
	f.Add([]byte("a net's calls, of which some put items, and some take or double one"))
	f.Add(slices.Repeat([]byte("\x00\x07\xc8"), 60))
	f.Fuzz(func(t *testing.T, l []byte) {
		b, c := two(t, len(l)%25), chance(len(l))
		for i, x := range l {
			c = c<<8 ^ chance(x) ^ c>>56
			if got, want := c.any(len(b.p.items), i)(b); got != want || !like(b.n, b.p) {
				t.Fatalf("%q: call %d: %v; want %v; %v; want %v", l, i, got, want, short(lists(b.n)), *b.p)
			}
		}
	})
}

// TestNetsAreApart: P2: the same calls of two nets answer the same, whatever is done with others between.
func TestNetsAreApart(t *testing.T) {
	c, d, between := chance(5), chance(5), chance(6)
	a, b, other := two(t, 20), two(t, 20), two(t, 9)
	for i := range 800 {
		x, _ := c.any(len(a.p.items), i)(a)
		between.any(len(other.p.items), 1000-i)(other)
		if y, _ := d.any(len(b.p.items), i)(b); x != y || !like(a.n, a.p) || !like(b.n, b.p) {
			t.Fatalf("call %d: %v, then %v; %v, then %v", i, x, y, short(lists(a.n)), short(lists(b.n)))
		}
	}
}

// TestAWay: P18.1, P18.2: a net, as README.md tells it.
func TestAWay(t *testing.T) {
	if net.MostBytes != 2000 {
		t.Errorf("MostBytes: %d", net.MostBytes)
	}
	n := made(t, 3)
	up, down := one{0, 1, "a letter"}, one{1, 2, "another"}
	puts(t, n, 2, up, one{2, 16, "to nobody"}, down)
	has(t, n, 1, up, down)
	finds(t, n, 1, 2, 1)
	finds(t, n, 2, 2, -1)
	doubles(t, n, 0, api.OK)
	has(t, n, 1, up, down, up)
	doubles(t, n, 0, api.ErrFull)
	puts(t, n, 0, down)
	has(t, n, 2, up, down, up)
	takes(t, n, 1, down)
	has(t, n, 2, up, up)
	noAt(t, n, 2, api.ErrNone)
	if _, e := net.New(4097); e != api.ErrArg {
		t.Errorf("New(4097): %d", e)
	}
}
