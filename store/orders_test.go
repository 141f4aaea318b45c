package store_test

import (
	"math"
	"slices"
	"testing"

	"rutter/api"
	"rutter/phase"
	"rutter/store"
)

// plain is what a store is, told anew in the simplest way: a value that is copied whole; a row of version 0 is none.
type plain struct {
	there [16]bool
	rows  [32]api.Row
}

func (p *plain) chassis() []int {
	var l []int
	for n, there := range p.there {
		if there {
			l = append(l, n)
		}
	}
	return l
}

func (p *plain) all() []api.Row {
	return slices.DeleteFunc(slices.Clone(p.rows[:]), func(r api.Row) bool { return r.Ver == 0 })
}

// names tells whether a row names a chassis, as one of those that its phase has.
func names(r api.Row, n int) bool { return r.Owner == n || r.Target == n || r.Old == n }

func (p *plain) add(n int) api.Errno {
	switch {
	case !is(n, 0, 15):
		return api.ErrArg
	case p.there[n]:
		return api.ErrTwice
	}
	p.there[n] = true
	return api.OK
}

func (p *plain) remove(n int) api.Errno {
	switch {
	case !is(n, 0, 15) || !p.there[n]:
		return api.ErrNone
	case slices.ContainsFunc(p.all(), func(r api.Row) bool { return names(r, n) }):
		return api.ErrUsed
	}
	p.there[n] = false
	return api.OK
}

// lacks tells whether a row that may be names a chassis that isn't there.
func (p *plain) lacks(r api.Row) bool {
	for n, there := range p.there {
		if !there && names(r, n) {
			return true
		}
	}
	return false
}

// taken tells whether another port's row that is not gone has the address of a row that is not gone.
func (p *plain) taken(r api.Row) bool {
	return r.Phase != api.Gone && slices.ContainsFunc(p.all(), func(x api.Row) bool {
		return x.Port != r.Port && x.Phase != api.Gone && x.MAC == r.MAC
	})
}

func (p *plain) change(c store.Change) api.Errno {
	switch {
	case !rowMayBe(c.Row) || c.Row.Ver <= c.Was:
		return api.ErrArg
	case p.lacks(c.Row):
		return api.ErrNone
	case p.rows[c.Row.Port].Ver != c.Was:
		return api.ErrStale
	case p.taken(c.Row):
		return api.ErrTwice
	}
	p.rows[c.Row.Port] = c.Row
	return api.OK
}

func (p *plain) apply(l ...store.Change) api.Errno {
	next := *p
	for _, c := range l {
		if e := next.change(c); e != api.OK {
			return e
		}
	}
	*p = next
	return api.OK
}

func (p *plain) find(mac uint64) (api.Row, bool) {
	for _, r := range p.rows {
		if r.Ver > 0 && r.MAC == mac && r.Phase != api.Gone {
			return r, true
		}
	}
	return api.Row{}, false
}

// both is a store, and a plain one to hold it against.
type both struct {
	s *store.Store
	p *plain
}

func two() both { return both{store.New(), &plain{}} }

// same tells whether both have the same.
func (b both) same() bool { return b.sameChassis() && b.sameRows() && b.sameFound() }

func (b both) sameChassis() bool {
	for n := -1; n <= 16; n++ {
		if b.s.Has(n) != slices.Contains(b.p.chassis(), n) {
			return false
		}
	}
	return slices.Equal(b.s.Chassis(), b.p.chassis())
}

func (b both) sameRows() bool {
	for n := -1; n <= 32; n++ {
		var want api.Row
		if is(n, 0, 31) {
			want = b.p.rows[n]
		}
		if got, ok := b.s.Row(n); got != want || ok != (want.Ver > 0) {
			return false
		}
	}
	return slices.Equal(b.s.Rows(), b.p.all())
}

func (b both) sameFound() bool {
	l := []uint64{0, 1, 2, 1<<48 - 1, 1 << 48, math.MaxUint64}
	for _, r := range b.p.all() {
		l = append(l, r.MAC)
	}
	return !slices.ContainsFunc(l, func(n uint64) bool {
		r, ok := b.s.Find(n)
		want, found := b.p.find(n)
		return r != want || ok != found
	})
}

func (b both) sameLate(now, span int) bool {
	return slices.Equal(b.s.Late(now, span), toldLate(b.p.all(), now, span))
}

// keeps tells whether a store's rows are as P10.2 says, behind those that were.
func keeps(s *store.Store, was []api.Row) bool {
	rows := s.Rows()
	for _, r := range was {
		if i := slices.IndexFunc(rows, func(x api.Row) bool { return x.Port == r.Port }); i < 0 || rows[i].Ver < r.Ver {
			return false
		}
	}
	has := map[uint64]bool{}
	for _, r := range rows {
		for _, n := range []int{r.Owner, r.Target, r.Old} {
			if n != -1 && !s.Has(n) {
				return false
			}
		}
		if r.Phase != api.Gone && has[r.MAC] {
			return false
		}
		has[r.MAC] = has[r.MAC] || r.Phase != api.Gone
	}
	return true
}

// unlike is an answer that no call gives: both did not do the same.
const unlike api.Errno = -1

// step is a call of both; it tells what each answered.
type step func(b both) (api.Errno, api.Errno)

// makes lets both do a call; it tells what was answered, and whether both answered the same, now have the same, and P10.2 holds.
func (b both) makes(call step) (api.Errno, bool) {
	was := b.s.Rows()
	e, want := call(b)
	return e, e == want && b.same() && keeps(b.s, was)
}

func adding(n int) step {
	return func(b both) (api.Errno, api.Errno) { return b.s.Add(n), b.p.add(n) }
}

func removing(n int) step {
	return func(b both) (api.Errno, api.Errno) { return b.s.Remove(n), b.p.remove(n) }
}

func applying(l ...store.Change) step {
	return func(b both) (api.Errno, api.Errno) { return b.s.Apply(l...), b.p.apply(l...) }
}

// becomesLate applies what Late tells, which fits, and behind which nothing is late.
func becomesLate(now, span int) step {
	return func(b both) (api.Errno, api.Errno) {
		if !b.sameLate(now, span) {
			return api.OK, unlike
		}
		e, want := applying(b.s.Late(now, span)...)(b)
		if e != api.OK || len(b.s.Late(now, span)) != 0 {
			return e, unlike
		}
		return e, want
	}
}

// few are calls with little in them, such that many errors come of their orders.
func few() []step {
	a, b := row(0, port(0), mac(1), owner(0), ver(1)), row(0, port(1), mac(1), owner(1), ver(1))
	moving, moved := with(a, in(1), target(1), ver(2)), with(a, in(2), who(1, -1, 0), gen(71), ver(3))
	gone := with(a, in(3), owner(-1), ver(2))
	return []step{
		adding(0), adding(1), adding(16), removing(0), removing(1),
		applying(), applying(from(0, a)), applying(from(0, b)), applying(from(0, with(b, mac(2))), from(0, a)),
		applying(from(1, moving)), applying(from(1, moving), from(2, moved)), applying(from(1, gone)), applying(from(1, gone), from(0, b)),
		applying(from(2, with(a, ver(3))), from(3, with(b, ver(3)))), becomesLate(6000, 10),
	}
}

// inOrder makes the calls that the figures of an order tell, and looks at what both have behind the last one.
func inOrder(t *testing.T, b both, steps []step, order, long int) {
	t.Helper()
	var was []api.Row
	for i := range long {
		was = b.s.Rows()
		if e, want := steps[order%len(steps)](b); e != want {
			t.Fatalf("call %d, %d: %d; want %d: %s; want %+v", i, order%len(steps), e, want, look(b.s), *b.p)
		}
		order /= len(steps)
	}
	if !b.same() || !keeps(b.s, was) {
		t.Fatalf("%s; want %+v", look(b.s), *b.p)
	}
}

// TestOrders: P10.1, P10.2: all orders of up to four of these calls of a store with two chassis, and of up to three of an empty one.
func TestOrders(t *testing.T) {
	steps := few()
	for long, orders := 1, len(steps); long <= 4; long, orders = long+1, orders*len(steps) {
		for order := range orders {
			b := two()
			adding(0)(b)
			adding(1)(b)
			inOrder(t, b, steps, order, long)
			if long < 4 {
				inOrder(t, two(), steps, order, long)
			}
		}
	}
}

// chance tells numbers that look like chance, the same in each run.
type chance uint64

func (c *chance) below(n int) int {
	*c = *c*6364136223846793005 + 1442695040888963407
	return int(uint64(*c) >> 33 % uint64(n))
}

// act is an act of a row that it may be done to, most often; of a port without a row it tells a first one.
func (c *chance) act(p int, r api.Row) api.Row {
	now, host := min(1<<40, r.Since+c.below(9)), c.below(16)
	if r.Ver == 0 {
		n, _ := phase.New(p, uint64(c.below(12)), host, now)
		return n
	}
	var n api.Row
	switch {
	case r.Phase == api.Bound && c.below(3) > 0:
		n, _ = phase.Start(r, host, now)
	case r.Phase == api.Bound:
		n, _ = phase.Drop(r, now)
	case r.Phase == api.Moving && c.below(3) == 0:
		n, _ = phase.Abort(r, now)
	case r.Phase == api.Gone:
		n, _ = phase.Again(r, uint64(c.below(12)), host, now)
	default:
		n, _ = phase.Commit(r, now)
	}
	return n
}

// acts are changes that acts make, of some ports, or of one, one behind the other.
func (c *chance) acts(p plain) []store.Change {
	var l []store.Change
	n := c.below(32)
	for range c.below(5) {
		if c.below(2) == 0 {
			n = c.below(32)
		}
		x := from(p.rows[n].Ver, c.act(n, p.rows[n]))
		if p.change(x) == api.OK || c.below(8) == 0 {
			l = append(l, x)
		}
	}
	return l
}

// spoilt are changes of which one may have become another one.
func (c *chance) spoilt(l []store.Change) []store.Change {
	if len(l) == 0 {
		return l
	}
	x := &l[c.below(len(l))]
	switch c.below(9) {
	case 0:
		x.Was += c.below(5) - 2
	case 1:
		x.Row.Ver += c.below(5) - 2
	case 2:
		x.Row.MAC = [...]uint64{0, 1, 5, 1<<48 - 1, 1 << 48}[c.below(5)]
	case 3:
		x.Row.Owner = c.below(18) - 1
	case 4:
		x.Row.Port = c.below(34) - 1
	case 5:
		x.Row.Phase = api.Phase(c.below(5))
	case 6:
		x.Row.Gen = [...]int{0, 1, 1 << 32, 1<<32 + 1}[c.below(4)]
	case 7:
		x.Row.Since = [...]int{-1, 0, 1 << 40, 1<<40 + 1}[c.below(4)]
	}
	return l
}

// any is any call, most often one without an error.
func (c *chance) any(b both) step {
	switch n := c.below(18); {
	case n < 3:
		return adding(c.below(18) - 1)
	case n == 3:
		return removing(c.below(18) - 1)
	case n == 4:
		return becomesLate([...]int{-1, 0, 6, 30, 200, 1 << 40, 1<<40 + 1}[c.below(7)], [...]int{math.MinInt, 0, 4, 20, math.MaxInt}[c.below(5)])
	case n < 9:
		return applying(c.spoilt(c.acts(*b.p))...)
	}
	return applying(c.acts(*b.p)...)
}

// TestAnyCalls: P10.1, P10.2, P1: any calls, one behind the other, held against a plain store.
func TestAnyCalls(t *testing.T) {
	c, seen := chance(1), map[api.Errno]int{}
	for range 30 {
		b := two()
		for i := range 400 {
			e, ok := b.makes(c.any(b))
			if !ok {
				t.Fatalf("call %d: %d: %s; want %+v", i, e, look(b.s), *b.p)
			}
			seen[e]++
		}
	}
	for _, e := range []api.Errno{api.OK, api.ErrArg, api.ErrNone, api.ErrTwice, api.ErrStale, api.ErrUsed} {
		if seen[e] < 100 {
			t.Errorf("of error %d too few: %v", e, seen)
		}
	}
}

// TestAWay: P10.1: a port's way by the acts, which README.md tells, too.
func TestAWay(t *testing.T) {
	s := made(t, 1, 2)
	adds(t, s, 1, api.ErrTwice)
	a, _ := phase.New(3, 1<<41+3, 1, 10)
	m, _ := phase.Start(a, 2, 11)
	d, e := phase.Commit(m, 12)
	if e != api.OK {
		t.Fatal(e)
	}
	does(t, s, store.Change{Row: a})
	does(t, s, store.Change{Row: m, Was: 1}, store.Change{Row: d, Was: 2})
	refuses(t, s, api.ErrStale, store.Change{Row: m, Was: 1})
	b, _ := phase.New(4, 1<<41+3, 1, 12)
	refuses(t, s, api.ErrTwice, store.Change{Row: b})
	refuses(t, s, api.ErrNone, store.Change{Row: with(b, mac(7), owner(5))})
	refuses(t, s, api.ErrArg, store.Change{Row: with(b, mac(7), owner(16))})
	removes(t, s, 1, api.ErrUsed)
	holds(t, s, d)
	finds(t, s, 1<<41+3, d)
	does(t, s, s.Late(22, 10)...)
	holds(t, s, api.Row{Port: 3, MAC: 1<<41 + 3, Owner: 2, Target: -1, Old: -1, Gen: 2, Ver: 4, Since: 22})
	removes(t, s, 1, api.OK)
	chassisAre(t, s, 2)
}

// TestGenerations: P10.2: of what is changed by acts alone no generation falls, and no version; what is refused lets them be.
func TestGenerations(t *testing.T) {
	c := chance(2)
	for range 8 {
		b := two()
		for n := range 16 {
			adding(n)(b)
		}
		for range 400 {
			was := b.s.Rows()
			if _, ok := b.makes(applying(c.acts(*b.p)...)); !ok {
				t.Fatalf("%s; want %+v", look(b.s), *b.p)
			}
			for _, r := range was {
				if n, ok := b.s.Row(r.Port); !ok || n.Gen < r.Gen || n.Ver < r.Ver || (n.Ver == r.Ver && n != r) {
					t.Fatalf("%+v; was %+v", n, r)
				}
			}
		}
		if most := slices.MaxFunc(b.s.Rows(), func(a, b api.Row) int { return a.Gen - b.Gen }); most.Gen < 4 {
			t.Errorf("few generations: %+v", most)
		}
	}
}

// likePlain does what bytes say, and holds it against a plain store: calls of chance, from a number that these bytes tell.
func likePlain(t *testing.T, l []byte) {
	t.Helper()
	b, c := two(), chance(len(l))
	for i, x := range l {
		c = c<<8 ^ chance(x) ^ c>>56
		if e, ok := b.makes(c.any(b)); !ok {
			t.Fatalf("%q: call %d: %d: %s; want %+v", l, i, e, look(b.s), *b.p)
		}
	}
}

// FuzzCalls: as TestAnyCalls; go test runs the seeds alone.
func FuzzCalls(f *testing.F) {
	f.Add([]byte{})
	f.Add([]byte("a store's calls"))
	f.Add(slices.Repeat([]byte{0, 0, 7, 200, 9, 9}, 30))
	f.Fuzz(likePlain)
}

// FuzzChange: P10.1, P1: any change, as a first one, and behind another one; go test runs the seeds alone.
func FuzzChange(f *testing.F) {
	for _, r := range append(each(), row(0, port(32)), row(1, mac(1<<48)), row(3, ver(0)), api.Row{}) {
		f.Add(r.Port, r.MAC, r.Owner, r.Target, r.Old, r.Gen, int(r.Phase), r.Ver, r.Since, 0)
		f.Add(r.Port, r.MAC, r.Owner, r.Target, r.Old, r.Gen, int(r.Phase), r.Ver, r.Since, 899)
	}
	f.Fuzz(func(t *testing.T, p int, m uint64, o, n, d, g, in, v, s, was int) {
		x := from(was, api.Row{Port: p, MAC: m, Owner: o, Target: n, Old: d, Gen: g, Phase: api.Phase(in), Ver: v, Since: s})
		for _, first := range []api.Row{row(0, ver(899)), row(1, port(1), ver(899)), row(3, ver(899))} {
			b := two()
			for i := range 15 {
				adding(i)(b)
			}
			for i, call := range []step{applying(x), applying(from(0, first), x), applying(x), becomesLate(s, v), removing(o), removing(n)} {
				if e, ok := b.makes(call); !ok {
					t.Fatalf("%+v: call %d: %d: %s; want %+v", x, i, e, look(b.s), *b.p)
				}
			}
		}
	})
}
