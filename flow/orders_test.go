package flow_test

import (
	"slices"
	"testing"

	"rutter/flow"
)

// TestOrders: P13.1: all tables of up to four of ten entries, in all orders, also of the same again, held against a plain one.
func TestOrders(t *testing.T) {
	few := append(ranked(), entry(prio(5), ins(-8), does(2, 10, 10)))
	keys := rankKeys()
	var from func(l []flow.Entry)
	from = func(l []flow.Entry) {
		has(t, made(t, l...), l, keys...)
		if len(l) == 4 || t.Failed() {
			return
		}
		for _, e := range few {
			from(append(l, e))
		}
	}
	from(make([]flow.Entry, 0, 4))
}

// chance tells numbers that look like any, always the same.
type chance uint64

func (c *chance) below(n int) int {
	*c = *c*6364136223846793005 + 1442695040888963407
	return int(uint64(*c) >> 33 % uint64(n))
}

// number is one of few, seldom one of the edges.
func (c *chance) number(n int) int {
	if c.below(30) == 0 {
		return edges()[c.below(len(edges()))]
	}
	return c.below(n)
}

// entries are so many, most of which fit some of the keys.
func (c *chance) entries(n int) []flow.Entry {
	l := make([]flow.Entry, n)
	for i := range l {
		l[i] = entry(prio(c.number(6)-2), ins(c.number(10)), mac(uint64(c.number(3))), port(c.number(3)), not(c.number(4)-1), does(c.below(3), i, i))
		l[i].From = c.number(4)
		l[i].Upto = l[i].From + c.number(5) - 1
	}
	return l
}

// key is one of few, seldom any.
func (c *chance) key() flow.Key {
	in := c.below(3)
	if c.below(20) == 0 {
		in = c.number(5)
	}
	return flow.Key{In: in, MAC: uint64(c.number(3)), Port: c.number(3), Stamp: c.number(6), Origin: c.number(4) - 1}
}

// TestAnyTables: P13.1, P1: any tables, and any keys, held against plain ones.
func TestAnyTables(t *testing.T) {
	c, seen := chance(1), map[bool]int{}
	for round := range 300 {
		n := c.below(20)
		if round%20 == 0 {
			n = 250 + c.below(7)
		}
		l := c.entries(n)
		s := made(t, l...)
		for range 40 {
			k := c.key()
			has(t, s, l, k)
			_, ok := s.Look(k)
			seen[ok]++
			if len(l) > 0 {
				e := l[c.below(len(l))]
				fits(t, e, k, plainFits(e, k))
			}
		}
	}
	if seen[true] < 2000 || seen[false] < 2000 {
		t.Errorf("%v", seen)
	}
}

// FuzzTables: as TestAnyTables and TestRankOfAny: a table of chance, from a number that the bytes tell; go test runs the seeds alone.
func FuzzTables(f *testing.F) {
	f.Add([]byte{})
	f.Add([]byte("a table's entries, of which some fit a key, and some don't"))
	f.Add(slices.Repeat([]byte("\x00\x07\xc8"), 80))
	f.Fuzz(func(t *testing.T, b []byte) {
		c := chance(len(b))
		for _, x := range b {
			c = c<<8 ^ chance(x) ^ c>>56
			l, k := c.entries(1+len(b)%40), c.key()
			s := made(t, l...)
			has(t, s, l, k)
			best, ok := lookedUp(l, k)
			stays(t, k, s, slices.DeleteFunc(l, func(e flow.Entry) bool { return !ok || e.Prio < best.Prio }))
		}
	})
}

// TestSameAnswers: P2: tables of the same entries answer the same, whatever is asked of others between.
func TestSameAnswers(t *testing.T) {
	c, between := chance(3), chance(4)
	for range 50 {
		l := c.entries(c.below(60))
		a, b, other := made(t, l...), made(t, l...), made(t, between.entries(40)...)
		for range 20 {
			k := c.key()
			x, ok := a.Look(k)
			other.Look(between.key())
			flow.Fits(entry(), between.key())
			if y, too := b.Look(k); x != y || ok != too {
				t.Errorf("%+v: %+v, %t, then %+v, %t", k, x, ok, y, too)
			}
			if y, too := a.Look(k); x != y || ok != too {
				t.Errorf("%+v: %+v, %t, then %+v, %t", k, x, ok, y, too)
			}
		}
	}
}
