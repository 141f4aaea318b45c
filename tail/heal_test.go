package tail_test

import (
	"fmt"
	"testing"

	"rutter/api"
	"rutter/inet"
	"rutter/tail"
	"rutter/world"
)

// losing tells whether the next round is lost, of which so many ahead of it were, one behind the other, and at most loss may be.
type losing func(c *chance, ahead, loss int) bool

// losings are: none, as many as may be, and any of them.
func losings() []losing {
	return []losing{
		func(c *chance, ahead, loss int) bool { return false },
		func(c *chance, ahead, loss int) bool { return ahead < loss },
		func(c *chance, ahead, loss int) bool { return ahead < loss && c.below(3) > 0 },
	}
}

// heals checks P22.2 of a world: behind Begin, and as many rounds as Bound tells, of which at most loss, one behind the other, are lost, it is settled. It tells how many rounds there were till it was so for good. Not all are done of one that was so for long, if that is enough.
func heals(t testing.TB, c *chance, w *world.World, span, loss int, l losing, long int) int {
	t.Helper()
	begins(t, w)
	ahead, first := 0, 0
	for n := range tail.Bound(span, loss) {
		if tail.Settled(w) {
			if n-first == long {
				break
			}
		} else {
			first = n + 1
		}
		if ahead++; !l(c, ahead-1, loss) {
			ahead = 0
		}
		_, e := tail.Round(w, ahead > 0)
		ok(t, e)
	}
	if !tail.Settled(w) {
		t.Fatalf("P22.2: behind %d rounds of span %d and loss %d it is not settled: %s", tail.Bound(span, loss), span, loss, look(w))
	}
	return first
}

// lasts checks that a settled world stays so, round by round, whichever are lost, and without a word.
func lasts(t testing.TB, w *world.World, rounds int) {
	t.Helper()
	rows := fmt.Sprint(w.Ctl().Rows(), w.Ctl().Chassis())
	for i := range rounds {
		goes(t, w, i%3 == 1, 2*len(w.Ctl().Chassis()), 0)
		if !tail.Settled(w) || fmt.Sprint(w.Ctl().Rows(), w.Ctl().Chassis()) != rows {
			t.Fatalf("P22.2: round %d behind it: %s", i, look(w))
		}
	}
}

// TestHeals: P22.2, P22.3: worlds of spans from 1 to 20 behind any calls, ticks, crashes, breaks, starts and steps, with letters and packets that are delivered, lost, doubled and turned about: they are settled, stay so, and each member reaches each port.
func TestHeals(t *testing.T) {
	seen := map[string]int{}
	for seed := range 480 {
		c, span := chance(seed), 1+seed%20
		w := lived(t, &c, span, []int{0, 30, 300, 900}[seed/20%4], moods()[seed%4], seen)
		loss := seed / 7 % 5
		if w.Lost() > 0 {
			t.Fatalf("seed %d: the net was full", seed)
		}
		for _, r := range w.Ctl().Rows() {
			seen[fmt.Sprint("phase ", r.Phase)]++
		}
		first := heals(t, &c, w, span, loss, losings()[seed%3], 30)
		if first > span {
			seen["a span"]++
		}
		lasts(t, w, 5)
		seen["reached"] += reaches(t, &c, w, seed%2 == 0)
		lasts(t, w, 5)
		// And on from there.
		for range 200 {
			c.does(w, moods()[(seed+1)%4], span)
		}
		heals(t, &c, w, span, loss, losings()[(seed+1)%3], 30)
		seen["reached"] += reaches(t, &c, w, seed%2 == 1)
	}
	enough(t, seen, map[string]int{
		"call": 5000, "break": 50, "tick": 1000, "start": 500, "crash": 300, "step": 5000, "deliver": 10000, "drop": 1000, "double": 500, "inject": 3000, "error": 5000,
		"phase 0": 300, "phase 1": 200, "phase 2": 30, "phase 3": 100, "a span": 100, "reached": 10000,
	})
}

// TestHealsInAllRounds: P22.2: as TestHeals, but all the rounds that Bound tells are done, also where it is settled ahead of that.
func TestHealsInAllRounds(t *testing.T) {
	seen := map[string]int{}
	for seed := range 40 {
		c, span := chance(1000+seed), 1+seed%20
		w := lived(t, &c, span, 400, moods()[seed%4], seen)
		heals(t, &c, w, span, seed%4, losings()[seed%3], -1)
		reaches(t, &c, w, seed%2 == 0)
	}
}

// TestHealsOfSpanZero: P22.2: of a span of 0 there is no world, and no call does anything.
func TestHealsOfSpanZero(t *testing.T) {
	w, e := world.New(0, life)
	has(t, e, api.ErrArg)
	has(t, tail.Begin(w), api.ErrArg)
	runs(t, w, tail.Bound(0, 0), 0, 0, api.ErrArg)
	if tail.Settled(w) {
		t.Error("it is settled")
	}
}

// TestHealsAtEachSpan: P22.2: a port whose guest awakes as late as may be: where that comes, it has moved, and is bound there a span later; where it is lost, it is back where it was.
func TestHealsAtEachSpan(t *testing.T) {
	for span := 3; span <= 20; span++ {
		for loss := range 4 {
			c, w := chance(span), made(t, span, 0, 1, 2)
			does(t, w, asks(api.AddPort, 3, 1))
			heals(t, &c, w, span, loss, losings()[2], 5)
			does(t, w, asks(api.Start, 3, 2))
			talks(t, w, 2, 0, 1, 2)
			ok(t, w.Tick(span-2))
			sends(t, w, 2, announces(3))
			first := heals(t, &c, w, span, loss, losings()[1], 5)
			r := row(w, 3)
			if want := 2 - min(loss, 1); r.Owner != want || r.Gen != want || r.Phase != api.Bound {
				t.Errorf("span %d, loss %d: %+v", span, loss, r)
			}
			if loss == 0 && (first <= span || first > span+3) {
				t.Errorf("span %d: behind %d rounds", span, first)
			}
			reaches(t, &c, w, true)
		}
	}
}

// crowd is a world of a span, of all chassis and ports, all of which are on their way, where queues are full, flows are tracked, and of much nobody has heard.
func crowd(t testing.TB, c *chance, span int) *world.World {
	t.Helper()
	w := made(t, span, bits(1<<16-1)...)
	begins(t, w)
	for port := range 32 {
		does(t, w, asks(api.AddPort, port, port%16))
	}
	talks(t, w, 8, bits(1<<16-1)...)
	for n := range 16 {
		for i := range 20 {
			f := plainFrame(n)
			f.Type = api.TypeIPv4
			f.Load, _ = inet.Make(api.Flow{Proto: api.TCP, Src: uint32(n), Dst: uint32(i)}, nil)
			sends(t, w, n, f)
		}
	}
	for i := range 200 {
		port := i % 32
		switch r := row(w, port); {
		case r.Phase == api.Bound:
			does(t, w, asks(api.Start, port, (r.Owner+1+c.below(15))%16))
		case r.Phase == api.Moving && i < 160:
			does(t, w, asks(one(c, api.Commit, api.Abort), port, 0))
		case i < 160:
			does(t, w, asks(api.Commit, port, 0))
		}
		if i%20 == 0 {
			talks(t, w, 1, c.below(16), c.below(16))
		}
		for _, r := range w.Agent(c.below(16)).Rows() {
			if r.Phase == api.Moving && c.below(4) == 0 {
				sends(t, w, r.Target, announces(r.Port))
			}
		}
	}
	return w
}

// TestHealsOfCrowd: P22.2, P22.3: all chassis and ports, with all that can be left to be told, where none, some, or all crashed, with each loss.
func TestHealsOfCrowd(t *testing.T) {
	for seed := range 12 {
		c, loss := chance(seed), seed%4
		w := crowd(t, &c, 20)
		for n := nobody; n < 16; n++ {
			if seed%3 == 2 || seed%3 == 1 && c.below(3) == 0 {
				crashes(t, w, n)
			}
		}
		first := heals(t, &c, w, 20, loss, losings()[seed%3], 20)
		if first < 4 {
			t.Errorf("seed %d: behind %d rounds", seed, first)
		}
		if n := reaches(t, &c, w, seed%2 == 0); n != 16*32 {
			t.Errorf("%d were injected", n)
		}
		lasts(t, w, 5)
	}
}

// TestHealsOfFullNet: P22.2: a net that was full ahead of the rounds is empty behind the first one.
func TestHealsOfFullNet(t *testing.T) {
	for loss := range 4 {
		c := chance(loss)
		w := crowd(t, &c, 3)
		for w.Len() < api.MaxFrames {
			steps(t, w, nobody)
		}
		heals(t, &c, w, 3, loss, losings()[1], 20)
		reaches(t, &c, w, false)
	}
}

// TestHealsOfMuchLoss: P22.2: with a loss that is greater than all that is left to be told.
func TestHealsOfMuchLoss(t *testing.T) {
	for _, loss := range []int{9, 50, 100} {
		c, w := chance(loss), made(t, span, 0, 1, 2, 3)
		does(t, w, asks(api.AddPort, 3, 1), asks(api.AddPort, 4, 2), asks(api.Start, 3, 2))
		first := heals(t, &c, w, span, loss, losings()[1], 2*loss)
		if first < loss || first > 5*(loss+1) {
			t.Errorf("loss %d: behind %d rounds", loss, first)
		}
		reaches(t, &c, w, true)
	}
}

// TestRunHeals: P22.2: what Run does of so many rounds as Bound tells is enough, with the loss that it is told.
func TestRunHeals(t *testing.T) {
	seen := map[string]int{}
	for seed := range 100 {
		c, span, loss := chance(2000+seed), 1+seed%20, seed%4
		w := lived(t, &c, span, 300, moods()[seed%4], seen)
		if _, e := tail.Run(w, tail.Bound(span, loss), loss); e != api.OK {
			t.Fatalf("seed %d: error %d: %s", seed, e, look(w))
		}
		settled(t, w, true)
		lasts(t, w, 5)
		reaches(t, &c, w, seed%2 == 0)
	}
}

// FuzzHeals: as TestHeals: deeds of chance, from a number that the bytes tell; go test runs the seeds alone.
func FuzzHeals(f *testing.F) {
	f.Add([]byte{}, 1, 0)
	f.Add([]byte("what is done with a world"), span, 2)
	f.Add([]byte{0, 7, 200, 9}, 19, 3)
	f.Fuzz(func(t *testing.T, l []byte, most, loss int) {
		c, span, loss := chance(len(l)), 1+most&0x1f, loss&7
		w := lived(t, &c, span, 0, mood{}, map[string]int{})
		for i, x := range l[:min(len(l), 2000)] {
			c = c<<8 ^ chance(x) ^ c>>56
			c.does(w, moods()[i%4], span)
		}
		heals(t, &c, w, span, loss, losings()[c.below(3)], 30)
		reaches(t, &c, w, len(l)%2 == 0)
		lasts(t, w, 3)
	})
}
