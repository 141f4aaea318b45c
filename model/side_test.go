package model_test

import (
	"fmt"
	"slices"
	"testing"

	"rutter/api"
	"rutter/arp"
	"rutter/model"
	"rutter/world"
)

// The chassis at which agents are in these tests, and who the controller is.
const (
	hosts  = 4
	nobody = api.Nobody
)

// side is a world, and a model that does what its controller is asked; behind a break there is another one, that did the call.
type side struct {
	w      *world.World
	m, did *model.Model
	looked int // how many events were
	seen   map[string]int
}

// sides are both, of a span, at their beginning.
func sides(t testing.TB, span int) *side {
	t.Helper()
	w, e := world.New(span, 20)
	if e != api.OK {
		t.Fatalf("New(%d): %d", span, e)
	}
	return &side{w: w, m: made(t, span), seen: map[string]int{}}
}

// begun are both with a few chassis, whose agents are up, and ports.
func begun(t testing.TB, span int) *side {
	t.Helper()
	s := sides(t, span)
	for n := range hosts {
		s.asks(t, adds(n))
		s.starts(t, n)
	}
	for _, port := range []int{3, 4, 31} {
		s.asks(t, asks(api.AddPort, port, port%hosts))
	}
	return s
}

// like checks that a controller that is up has what the model has.
func (s *side) like(t testing.TB, what string) {
	t.Helper()
	if c := s.w.Ctl(); c != nil && (!slices.Equal(c.Rows(), s.m.Rows()) || !slices.Equal(c.Chassis(), s.m.Chassis())) {
		t.Fatalf("%s: the controller has %+v, %d; the model %+v, %d", what, c.Rows(), c.Chassis(), s.m.Rows(), s.m.Chassis())
	}
}

// asks asks the world's controller, and the model, if that is up.
func (s *side) asks(t testing.TB, x api.Call) {
	t.Helper()
	var want api.Row
	var f api.Errno = api.ErrDown
	if s.w.Ctl() != nil {
		want, f = s.m.Do(x)
	}
	if r, e := s.w.API(x); r != want || e != f {
		t.Fatalf("%+v: the controller %+v, %d; the model %+v, %d", x, r, e, want, f)
	}
	s.seen[fmt.Sprintf("op %d error %d", min(max(x.Op, -1), 8), f)]++
	s.like(t, fmt.Sprintf("%+v", x))
}

// breaks lets the controller do a call halfway; nobody knows yet whether it did it.
func (s *side) breaks(t testing.TB, x api.Call, keep int) {
	t.Helper()
	if s.w.Ctl() == nil {
		return
	}
	s.did = s.m.Clone()
	_, want := s.did.Do(x)
	if e := s.w.Break(x, keep); e != want {
		t.Fatalf("Break of %+v: %d; the model %d", x, e, want)
	}
}

// ticks lets time pass: for the model, if the controller is up.
func (s *side) ticks(t testing.TB, n int) {
	t.Helper()
	if s.w.Tick(n) == api.OK && s.w.Ctl() != nil {
		ticks(t, s.m, s.w.Now())
	}
	s.like(t, fmt.Sprintf("%d ticks", n))
}

// starts lets somebody be up: if it is the controller, the model hears what time it is, and, if it has not what the controller has, it is the one that did the call.
func (s *side) starts(t testing.TB, who int) {
	t.Helper()
	if s.w.Start(who) != api.OK || who != nobody {
		return
	}
	ticks(t, s.m, s.w.Now())
	if s.did != nil {
		ticks(t, s.did, s.w.Now())
		if !slices.Equal(s.w.Ctl().Rows(), s.m.Rows()) || !slices.Equal(s.w.Ctl().Chassis(), s.m.Chassis()) {
			s.m = s.did
			s.seen["done"]++
		} else {
			s.seen["not done"]++
		}
		s.did = nil
	}
	s.like(t, "Start")
}

// hears lets the model hear what the controller was handed out.
func (s *side) hears(t testing.TB) {
	t.Helper()
	l := s.w.Events()
	for _, e := range l[s.looked:] {
		if e.What == 0 {
			s.seen[fmt.Sprintf("awake %v", s.m.Awake(e.Chassis, e.Port, e.Ver))]++
		}
	}
	s.looked = len(l)
	s.like(t, "what was handed out")
}

// delivers lets an item come.
func (s *side) delivers(t testing.TB, i int) {
	t.Helper()
	s.w.Deliver(i)
	s.hears(t)
}

// rounds lets all who are up step, and all come, so many times.
func (s *side) rounds(t testing.TB, n int) {
	t.Helper()
	for range n {
		for who := nobody; who < hosts; who++ {
			s.w.Step(who)
		}
		for s.w.Len() > 0 {
			s.delivers(t, 0)
		}
	}
}

// announces lets a guest at a chassis tell that its port is there.
func (s *side) announces(t testing.TB, chassis, port int) {
	t.Helper()
	f, e := arp.RARP(mac(port))
	if e != api.OK {
		t.Fatal(e)
	}
	s.w.Inject(chassis, f)
	s.hears(t)
}

// TestSideBySide: P20.2: a port that moves, whose guest is awake, and is late then: the same is answered, and the same is there.
func TestSideBySide(t *testing.T) {
	s := begun(t, span)
	s.rounds(t, 4)
	s.asks(t, asks(api.Start, 3, 2))
	s.ticks(t, 2)
	s.rounds(t, 2)
	s.announces(t, 2, 3)
	s.rounds(t, 2)
	want := at(2, moved(3, 2, 3, 2, 3))
	if got := of(s.m.Rows(), 3); got != want || s.seen["awake true"] != 1 {
		t.Fatalf("%+v; want %+v; %v", got, want, s.seen)
	}
	s.ticks(t, span-1)
	s.ticks(t, 1)
	if got := of(s.m.Rows(), 3); got != at(2+span, bound(3, 2, 2, 4)) {
		t.Fatalf("%+v", got)
	}
}

// TestSideOfADownOne: P20.2: what is asked of a controller that is down the model isn't asked, nor does time pass for it, until it is started again.
func TestSideOfADownOne(t *testing.T) {
	s := begun(t, span)
	s.asks(t, asks(api.Start, 3, 2))
	s.ticks(t, span-1)
	s.w.Crash(nobody)
	was := s.m.Rows()
	s.asks(t, asks(api.Commit, 3, 0))
	s.ticks(t, 5)
	has(t, s.m, was...)
	s.starts(t, nobody)
	if got := of(s.m.Rows(), 3); got != at(span+4, bound(3, 3, 1, 3)) {
		t.Fatalf("%+v", got)
	}
}

// asked are calls of each op, of which each changes something of what is begun, and some that don't.
func asked() []api.Call {
	return []api.Call{
		adds(9), {Op: api.RemoveChassis, Chassis: 1}, {Op: api.RemoveChassis, Chassis: 2}, asks(api.AddPort, 5, 2), asks(api.AddPort, 4, 2), asks(api.RemovePort, 4, 0),
		asks(api.Start, 4, 2), asks(api.Commit, 3, 0), asks(api.Abort, 3, 0), asks(api.Query, 3, 0), asks(api.Abort, 4, 0), adds(1), asks(8, 1, 1),
	}
}

// TestSideOfABreak: P20.2, T4: behind a break, with any keep, all is as ahead of the call, or as behind it, also where time passed: as ahead, if nothing was kept; as behind, if all was.
func TestSideOfABreak(t *testing.T) {
	for _, x := range asked() {
		for _, passes := range []int{0, 3, span} {
			for keep := -1; keep <= 37; keep++ {
				s := begun(t, span)
				s.asks(t, asks(api.Start, 3, 2))
				c := s.m.Clone()
				c.Do(x)
				changes := !slices.Equal(c.Rows(), s.m.Rows()) || !slices.Equal(c.Chassis(), s.m.Chassis())
				s.breaks(t, x, keep)
				if passes > 0 {
					s.ticks(t, passes)
				}
				s.starts(t, nobody)
				if n := s.seen["done"]; keep <= 0 && n > 0 || keep >= 35 && changes && n == 0 && passes < span {
					t.Errorf("%+v, of which %d are kept: done %d", x, keep, n)
				}
				s.asks(t, x)
				s.asks(t, asks(api.Start, 31, 2))
				s.rounds(t, 3)
			}
		}
	}
}

// place is most often the first one; seldom there is nothing.
func (c *chance) place(w *world.World) int {
	if k := c.below(30); k == 0 {
		return one(c, -1, w.Len(), c.edge())
	} else if k < 10 && w.Len() > 0 {
		return c.below(w.Len())
	}
	return 0
}

// wakes lets a guest announce a port that is moving, most often where it moves to.
func (s *side) wakes(t testing.TB, c *chance) {
	t.Helper()
	port := c.port()
	for _, r := range s.m.Rows() {
		if r.Phase == api.Moving && c.below(2) == 0 {
			port = r.Port
		}
	}
	by := of(s.m.Rows(), port).Target
	if c.below(5) == 0 {
		by = c.chassis()
	}
	s.announces(t, by, port)
}

// falls lets somebody crash, or the controller break.
func (s *side) falls(t testing.TB, c *chance) {
	t.Helper()
	if x := c.call(s.m.Rows()); c.below(2) == 0 {
		x.Op = one(c, x.Op, c.fitting(of(s.m.Rows(), x.Port)))
		s.breaks(t, x, one(c, -1, 0, 7, 8, 20, 34, 35, 99))
	} else {
		s.w.Crash(one(c, nobody, nobody, c.chassis()))
	}
	s.like(t, "a crash")
}

// goesOn does anything.
func (s *side) goesOn(t testing.TB, c *chance, wild int) {
	t.Helper()
	k := c.below(1000)
	switch {
	case k < wild:
		s.falls(t, c)
	case k < 3*wild:
		s.ticks(t, one(c, 1, 1, 1, 2, 2, 3, c.below(60)))
	case k < 3*wild+60:
		s.asks(t, c.call(s.m.Rows()))
	case k < 250:
		s.wakes(t, c)
	case k < 310:
		s.starts(t, one(c, nobody, nobody, c.chassis()))
	case k < 330:
		s.w.Drop(c.place(s.w))
	case k < 350:
		s.w.Double(c.place(s.w))
	case k < 600 && s.w.Len() < 20:
		s.w.Step(one(c, nobody, c.chassis(), c.chassis()))
	default:
		s.delivers(t, c.place(s.w))
	}
}

// TestSideOfAny: P20.2, T1: along any calls, ticks, crashes, breaks and starts, with letters that are lost, doubled and turned about.
func TestSideOfAny(t *testing.T) {
	seen := map[string]int{}
	for seed := range 60 {
		c, s := chance(500+seed), sides(t, []int{1, span, 40, 1 << 31}[seed%4])
		if seed%5 > 0 {
			s = begun(t, []int{3, span, 40, 200}[seed%4])
		}
		for range 3000 {
			s.goesOn(t, &c, []int{1, 6, 20}[seed%3])
		}
		for k, n := range s.seen {
			seen[k] += n
		}
	}
	few(t, seen, map[string]int{
		"awake true": 100, "awake false": 100, "done": 50, "not done": 100, "op 0 error 0": 50, "op 1 error 0": 10, "op 2 error 0": 300, "op 3 error 0": 300,
		"op 4 error 0": 500, "op 5 error 0": 300, "op 6 error 0": 100, "op 7 error 0": 500, "op 8 error 1": 10, "op 4 error 12": 100,
	})
}

// FuzzSide: as TestSideOfAny: what is done is of chance, from a number that the bytes tell; go test runs the seeds alone.
func FuzzSide(f *testing.F) {
	f.Add([]byte{}, 1)
	f.Add([]byte("what a world's controller is asked"), span)
	f.Add(slices.Repeat([]byte{0, 7, 200, 9}, 40), 1<<31)
	f.Fuzz(func(t *testing.T, l []byte, n int) {
		if !is(n, 1, 1<<31) {
			t.Skip()
		}
		s, c := begun(t, n), chance(len(l))
		for _, x := range l {
			c = c<<8 ^ chance(x) ^ c>>56
			s.goesOn(t, &c, int(x)%40)
		}
	})
}
