package tail_test

import (
	"math"
	"slices"
	"testing"

	"rutter/api"
	"rutter/tail"
	"rutter/world"
)

// TestRunOfNil: P22.1: there is no world.
func TestRunOfNil(t *testing.T) {
	for _, rounds := range edges() {
		runs(t, nil, rounds, rounds, 0, api.ErrArg)
	}
}

// TestRunOfSettled: P22.1: of a world that is settled already there are no rounds, however many there may be, and nothing is done.
func TestRunOfSettled(t *testing.T) {
	for _, w := range []*world.World{made(t, span), town(t)} {
		was := look(w)
		for _, rounds := range edges() {
			for _, loss := range edges() {
				runs(t, w, rounds, loss, 0, api.OK)
			}
		}
		stays(t, w, was)
	}
}

// TestRunOfSettledAtTheEnd: P22.1: so it is where no time is left.
func TestRunOfSettledAtTheEnd(t *testing.T) {
	w := town(t)
	ok(t, w.Tick(1<<40))
	runs(t, w, 9, 0, 0, api.OK)
	crashes(t, w, 0)
	runs(t, w, 0, 0, 0, api.ErrState)
	runs(t, w, 1, 0, 0, api.ErrArg)
	runs(t, w, math.MaxInt, 3, 0, api.ErrArg)
}

// unsettled are worlds of which each needs some rounds.
func unsettled() map[string]func(t testing.TB) *world.World {
	with := func(how func(t testing.TB, w *world.World)) func(t testing.TB) *world.World {
		return func(t testing.TB) *world.World {
			t.Helper()
			w := town(t)
			how(t, w)
			return w
		}
	}
	return map[string]func(t testing.TB) *world.World{
		"a new one":         func(t testing.TB) *world.World { return made(t, span, 0, 1, 15) },
		"under way":         with(func(t testing.TB, w *world.World) { steps(t, w, 2) }),
		"the agents down":   with(func(t testing.TB, w *world.World) { crashes(t, w, 0, 1, 2, 3) }),
		"one down":          with(func(t testing.TB, w *world.World) { crashes(t, w, 3) }),
		"all down":          with(func(t testing.TB, w *world.World) { crashes(t, w, nobody, 0, 1, 2, 3) }),
		"controller down":   with(func(t testing.TB, w *world.World) { crashes(t, w, nobody) }),
		"a call broken":     with(func(t testing.TB, w *world.World) { ok(t, w.Break(asks(api.Start, 4, 0), 40)) }),
		"moving":            with(func(t testing.TB, w *world.World) { does(t, w, asks(api.Start, 3, 2)) }),
		"moved":             with(func(t testing.TB, w *world.World) { does(t, w, asks(api.Start, 3, 2), asks(api.Commit, 3, 0)) }),
		"gone, nobody told": with(func(t testing.TB, w *world.World) { does(t, w, asks(api.RemovePort, 3, 0)) }),
		"many told": with(func(t testing.TB, w *world.World) {
			for i := range 90 {
				does(t, w, asks([]api.Op{api.Start, api.Commit, api.Commit}[i%3], 3, 2-i/3%2))
			}
		}),
	}
}

// TestRunRounds: P22.1: of worlds that need some rounds, with each loss: just enough, too few by one, more, none, and below 0.
func TestRunRounds(t *testing.T) {
	for name, how := range unsettled() {
		for loss := -1; loss < 4; loss++ {
			like := how(t)
			want, e := plainRun(like, 1000, loss)
			if ok(t, e); want == 0 {
				t.Fatalf("%s: it is settled", name)
			}
			for _, rounds := range []int{want, want + 1, 1000, math.MaxInt} {
				w := how(t)
				runs(t, w, rounds, loss, want, api.OK)
				stays(t, w, look(like))
				settled(t, w, true)
				runs(t, w, rounds, loss, 0, api.OK)
			}
			for _, rounds := range []int{math.MinInt, -1, 0, 1, want - 1} {
				if rounds == want {
					continue
				}
				w, short := how(t), how(t)
				_, e := plainRun(short, rounds, loss)
				has(t, e, api.ErrState)
				runs(t, w, rounds, loss, 0, api.ErrState)
				stays(t, w, look(short))
				settled(t, w, false)
			}
		}
	}
}

// busy is a world that is long not settled, and of whose rounds each one that is not lost tells something, while there are no more than eight.
func busy(t testing.TB) *world.World {
	t.Helper()
	w := made(t, 1000, 0, 1)
	starts(t, w, 0, 1)
	does(t, w, asks(api.AddPort, 3, 0))
	talks(t, w, 3, 0, 1)
	does(t, w, asks(api.Start, 3, 1))
	talks(t, w, 3, 0, 1)
	for range api.MaxQueue {
		ok(t, w.Agent(0).Push([]byte("a body")))
	}
	return w
}

// TestRunLost: P22.1: which rounds are lost, with each loss: of loss and 1, one behind the other, all but the last one.
func TestRunLost(t *testing.T) {
	for _, x := range []struct {
		loss int
		lost []int
	}{
		{math.MinInt, nil}, {-5, nil}, {-2, nil}, {-1, nil}, {0, nil},
		{1, []int{1, 3, 5, 7, 9}}, {2, []int{1, 2, 4, 5, 7, 8, 10}}, {3, []int{1, 2, 3, 5, 6, 7, 9, 10}}, {4, []int{1, 2, 3, 4, 6, 7, 8, 9}},
		{7, []int{1, 2, 3, 4, 5, 6, 7, 9, 10}}, {9, []int{1, 2, 3, 4, 5, 6, 7, 8, 9}}, {10, []int{1, 2, 3, 4, 5, 6, 7, 8, 9, 10}},
		{1 << 31, []int{1, 2, 3, 4, 5, 6, 7, 8, 9, 10}}, {1 << 32, []int{1, 2, 3, 4, 5, 6, 7, 8, 9, 10}},
		{math.MaxInt - 1, []int{1, 2, 3, 4, 5, 6, 7, 8, 9, 10}}, {math.MaxInt, []int{1, 2, 3, 4, 5, 6, 7, 8, 9, 10}},
	} {
		like := busy(t)
		for rounds := range 11 {
			if rounds > 0 {
				plainRound(like, slices.Contains(x.lost, rounds))
			}
			w := busy(t)
			runs(t, w, rounds, x.loss, 0, api.ErrState)
			if w.Now() != rounds {
				t.Fatalf("%d rounds: at %d", rounds, w.Now())
			}
			stays(t, w, look(like))
		}
	}
}

// TestBusyTells: the world of TestRunLost is another one, whichever of the first eight rounds were lost.
func TestBusyTells(t *testing.T) {
	seen := map[string]int{}
	for came := range 9 {
		w := busy(t)
		for i := range 8 {
			plainRound(w, i >= came)
		}
		for i := range 2 {
			plainRound(w, i > 0)
		}
		seen[look(w)]++
	}
	if len(seen) != 9 {
		t.Errorf("%d of 9", len(seen))
	}
}

// TestRunBeginsAgain: P22.1: each Run counts its own rounds, of which the first is lost with any loss above 0.
func TestRunBeginsAgain(t *testing.T) {
	w, like := busy(t), busy(t)
	for range 12 {
		runs(t, w, 1, 1, 0, api.ErrState)
		plainRound(like, true)
		stays(t, w, look(like))
	}
}

// TestRunLosesAll: P22.1: a world in which no letter ever comes is not settled; when they come it is.
func TestRunLosesAll(t *testing.T) {
	w := made(t, span, 0, 1)
	runs(t, w, 400, 400, 0, api.ErrState)
	if w.Agent(0).Peer() != 0 || w.Agent(1).Peer() != 0 || w.Now() != 400 {
		t.Error(look(w))
	}
	w = made(t, span, 0, 1)
	runs(t, w, 400, 199, 200, api.OK)
	w = made(t, span, 0, 1)
	runs(t, w, 400, 0, 1, api.OK)
}

// TestRunToTheEnd: P22.1: where the time ends ahead of that: the round's error, with 0; what was done stays.
func TestRunToTheEnd(t *testing.T) {
	for left := range 4 {
		w, like := busy(t), busy(t)
		for _, x := range []*world.World{w, like} {
			ok(t, x.Tick(500))
			// The span is up behind the end.
			does(t, x, asks(api.Abort, 3, 0))
			ok(t, x.Tick(1<<40-500-left))
			does(t, x, asks(api.Start, 3, 1))
		}
		runs(t, w, left+1, 1, 0, api.ErrArg)
		for i := range left {
			plainRound(like, i%2 == 0)
		}
		stays(t, w, look(like))
		runs(t, w, math.MaxInt, 0, 0, api.ErrArg)
		runs(t, w, 0, 0, 0, api.ErrState)
		stays(t, w, look(like))
	}
}

// TestRunUpToTheEnd: P22.1: where the last round that there may be is enough.
func TestRunUpToTheEnd(t *testing.T) {
	for left := range 3 {
		w := town(t)
		ok(t, w.Tick(1<<40-left))
		steps(t, w, 0)
		switch {
		case left == 0:
			runs(t, w, 1, 0, 0, api.ErrArg)
		default:
			runs(t, w, 9, 0, 1, api.OK)
		}
	}
}

// TestRunWhileFull: P22.1: a controller whose file is full goes on with what it has: a row that moves does so for good, and else it is settled.
func TestRunWhileFull(t *testing.T) {
	w := crammed(t)
	if row(w, 3).Phase == api.Moving {
		runs(t, w, 100, 0, 0, api.ErrState)
	} else if n, e := tail.Run(w, 100, 0); n == 0 || e != api.OK {
		t.Errorf("%d, %d", n, e)
	}
}
