package bind_test

import (
	"slices"
	"testing"

	"rutter/api"
	"rutter/bind"
	"rutter/flow"
)

// chance tells numbers that look like any, always the same.
type chance uint64

func (c *chance) below(n int) int {
	*c = *c*6364136223846793005 + 1442695040888963407
	return int(uint64(*c) >> 33 % uint64(n))
}

// standing are rows of all ports, in any order, of which any are left out; their addresses are of few.
func (c *chance) standing() []api.Row {
	var l []api.Row
	for n := range 32 {
		if c.below(4) == 0 {
			continue
		}
		a := c.below(16)
		b := (a + 1 + c.below(15)) % 16
		p := api.Phase(c.below(4))
		r := row(p, port(n), mac(uint64(c.below(20))), gen(1+c.below(4)), ver(1+c.below(9)))
		r.Owner, r.Target, r.Old = [...]int{a, a, a, -1}[p], [...]int{-1, b, -1, -1}[p], [...]int{-1, -1, b, -1}[p]
		if c.below(10) == 0 {
			r.Gen = 1 << 32
		}
		l = append(l, r)
		i := c.below(len(l))
		l[i], l[len(l)-1] = l[len(l)-1], l[i]
	}
	return l
}

// named is a key of those of which it is said what a table tells.
func (c *chance) named() flow.Key {
	if c.below(2) == 0 {
		return flow.Key{MAC: uint64(c.below(22)), Origin: -1}
	}
	return flow.Key{In: 1 + c.below(2), Port: c.below(33), Stamp: c.below(7) - 1, Origin: c.below(16), MAC: uint64(c.below(22))}
}

// number is one of few, seldom one of the edges.
func (c *chance) number(n int) int {
	if c.below(10) == 0 {
		return edges()[c.below(len(edges()))]
	}
	return c.below(n) - 1
}

// anyRow is one that most often may not be.
func (c *chance) anyRow() api.Row {
	return api.Row{Port: c.number(4), MAC: uint64(c.number(4)), Owner: c.number(5), Target: c.number(5), Old: c.number(5), Gen: c.number(5), Phase: api.Phase(c.number(6)), Ver: c.number(4), Since: c.number(4)}
}

// anyKey is any.
func (c *chance) anyKey() flow.Key {
	return flow.Key{In: c.number(5), MAC: uint64(c.number(4)), Port: c.number(4), Stamp: c.number(6), Origin: c.number(5)}
}

// TestAnyTables: P14.1, P14.2: tables of any rows that stand, of any keys that are named, held against what is told anew.
func TestAnyTables(t *testing.T) {
	c, seen := chance(1), map[int]int{}
	for range 300 {
		l, chassis := c.standing(), c.below(18)-1
		var keys []flow.Key
		for range 100 {
			keys = append(keys, c.named())
		}
		right(t, chassis, l, keys...)
		s := made(t, chassis, l...)
		for _, k := range keys {
			a, _ := s.Look(k)
			seen[a.Kind]++
			for _, r := range l {
				if a.Port == r.Port {
					oneWay(t, r, chassis, k, a)
				}
			}
		}
	}
	if seen[0] < 1000 || seen[1] < 300 || seen[2] < 1000 {
		t.Errorf("%v", seen)
	}
}

// anyMeaning checks what any row means, at any chassis, of any key, and that calls of lists of it end.
func anyMeaning(t *testing.T, r api.Row, chassis int, k flow.Key, l ...api.Row) {
	t.Helper()
	a := bind.Means(r, chassis, k)
	if want := plainMeans(r, chassis, k); a != want {
		t.Fatalf("%+v at %d, of %+v: %+v; want %+v", r, chassis, k, a, want)
	}
	oneWay(t, r, chassis, k, a)
	compiled(t, chassis, append(l, r)).Look(k)
	made(t, chassis, append(l, r)...).Look(k)
}

// TestAnyMeaning: P14.1, P14.2, P1: any rows, also such as may not be, at any chassis, of any keys.
func TestAnyMeaning(t *testing.T) {
	c, seen := chance(2), map[int]int{}
	for range 100000 {
		r, chassis, k := c.anyRow(), c.number(5), c.anyKey()
		if c.below(2) == 0 {
			k.MAC, k.Port, k.In = r.MAC, r.Port, c.below(3)
		}
		anyMeaning(t, r, chassis, k)
		seen[plainMeans(r, chassis, k).Kind]++
	}
	if seen[0] < 1000 || seen[1] < 1000 || seen[2] < 1000 {
		t.Errorf("%v", seen)
	}
}

// FuzzMeans: P14.1, P14.2, P1: any row, chassis and key; go test runs the seeds alone.
func FuzzMeans(f *testing.F) {
	for _, n := range edges() {
		f.Add(3, uint64(own), 4, -1, 7, 5, 2, 7, 1, uint64(own), 3, n, n)
		f.Add(n, uint64(n), n, n, n, n, n, n, 1, uint64(n), n, n, n)
		f.Add(3, uint64(n), 4, 7, n, n, 1, 4, 0, uint64(n), n, 0, -1)
		f.Add(3, uint64(n), n, n, n, 5, 3, n, 2, uint64(n), 3, 1, 4)
	}
	f.Fuzz(func(t *testing.T, p int, m uint64, o, ta, ol, g, ph, chassis, in int, km uint64, kp, st, from int) {
		r := api.Row{Port: p, MAC: m, Owner: o, Target: ta, Old: ol, Gen: g, Phase: api.Phase(ph), Ver: g, Since: st}
		k := flow.Key{In: in, MAC: km, Port: kp, Stamp: st, Origin: from}
		anyMeaning(t, r, chassis, k, row(api.Moved), r)
		k.MAC, k.Port = r.MAC, r.Port
		anyMeaning(t, r, chassis, k, r, r)
		anyMeaning(t, r, r.Old, k)
		anyMeaning(t, r, r.Owner, k)
	})
}

// FuzzTables: as TestAnyTables: rows of chance, from a number that the bytes tell; go test runs the seeds alone.
func FuzzTables(f *testing.F) {
	f.Add([]byte{})
	f.Add([]byte("rows that stand, at each chassis"))
	f.Add(slices.Repeat([]byte("\x00\x07\xc8"), 20))
	f.Fuzz(func(t *testing.T, b []byte) {
		c := chance(len(b))
		for _, x := range b {
			c = c<<8 ^ chance(x) ^ c>>56
		}
		for chassis := -1; chassis <= 16; chassis++ {
			l := c.standing()
			right(t, chassis, l, c.named(), c.named(), c.named(), c.named())
		}
	})
}

// TestSameAnswers: P2: the same calls answer the same, whatever is called between.
func TestSameAnswers(t *testing.T) {
	c, between := chance(3), chance(4)
	for range 100 {
		l, chassis, k := c.standing(), c.below(18)-1, c.named()
		a, s := bind.Compile(chassis, l...), made(t, chassis, l...)
		var was []flow.Action
		for _, r := range l {
			was = append(was, bind.Means(r, chassis, k))
		}
		x, ok := s.Look(k)
		bind.Compile(3, between.standing()...)
		bind.Table(3, between.standing()...)
		bind.Means(between.anyRow(), chassis, between.anyKey())
		if b := bind.Compile(chassis, l...); !slices.Equal(a, b) {
			t.Errorf("%+v, then %+v", a, b)
		}
		for i, r := range l {
			means(t, r, chassis, k, was[i])
		}
		for _, s := range []*flow.Table{s, made(t, chassis, l...)} {
			if y, too := s.Look(k); x != y || ok != too {
				t.Errorf("%+v, %t, then %+v, %t", x, ok, y, too)
			}
		}
	}
}
