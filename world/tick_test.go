package world_test

import (
	"math"
	"testing"

	"rutter/api"
	"rutter/world"
)

const last = 1 << 40 // the last time that there is

// wrongTicks are how many can't pass, whenever that is.
func wrongTicks() []int {
	return []int{math.MinInt, -last, -1 << 32, -noon, -2, -1, 0, last + 1, last + 2, 1 << 41, 1<<63 - last, 1<<63 - noon, math.MaxInt}
}

// upAndDown are a world at its beginning whose controller is up, and one where it is down.
func upAndDown(t testing.TB) []*world.World {
	t.Helper()
	l := []*world.World{made(t, span, life), made(t, span, life)}
	crashes(t, l[1], nobody)
	return l
}

// TestTick: P19.1: NOW is so many more, up to the last time that there is.
func TestTick(t *testing.T) {
	for _, l := range [][]int{{1, 1, 1, 2, 3}, {1, last - 2, 1}, {last}, {last - 1, 1}, {5, 1 << 32, 1 << 39, 1<<39 - 1<<32 - 5}} {
		for _, w := range upAndDown(t) {
			now := 0
			for _, n := range l {
				ticks(t, w, n)
				now += n
				if w.Now() != now {
					t.Fatalf("Now is %d; want %d", w.Now(), now)
				}
			}
		}
	}
}

// TestTickWrong: P19.1: ticks that can't pass, or would go beyond the last time, don't.
func TestTickWrong(t *testing.T) {
	for i := range 2 {
		for _, now := range []int{0, 1, noon, last - 2, last - 1, last} {
			w := upAndDown(t)[i]
			if now > 0 {
				ticks(t, w, now)
			}
			for _, n := range append(wrongTicks(), last-now+1, last-now+2) {
				stays(t, w, "Tick", api.ErrArg, func() api.Errno { return w.Tick(n) })
			}
			if now < last {
				ticks(t, w, last-now)
			}
			stays(t, w, "Tick", api.ErrArg, func() api.Errno { return w.Tick(1) })
			if w.Now() != last {
				t.Errorf("Now is %d", w.Now())
			}
		}
	}
}

// TestTickLate: P19.1: the controller ticks as well: what it does is done at NOW, and rows become late, by ports, and are told.
func TestTickLate(t *testing.T) {
	w := each(t)
	ticks(t, w, 3)
	if r := does(t, w, asks(api.Start, 3, 0)); r != at(noon+3, moving(3, 1, 0, 1, 2)) {
		t.Errorf("Start: %+v", r)
	}
	ticks(t, w, span-4)
	decided(t, w, at(noon+3, moving(3, 1, 0, 1, 2)), moving(4, 2, 0, 1, 2), moved(5, 1, 0, 2, 3), gone(6, 1, 2))
	ticks(t, w, 1)
	now := noon + span
	decided(t, w, at(noon+3, moving(3, 1, 0, 1, 2)), at(now, bound(4, 2, 1, 3)), at(now, bound(5, 1, 2, 4)), gone(6, 1, 2))
	ticks(t, w, 1<<20)
	now += 1 << 20
	decided(t, w, at(now, bound(3, 1, 1, 3)), at(noon+span, bound(4, 2, 1, 3)), at(noon+span, bound(5, 1, 2, 4)), gone(6, 1, 2))
	carries(t, w)
	rounds(t, w, 4)
	knows(t, w, 3, w.Ctl().Rows()...)
	happened(t, w)
}

// TestTickTellsNobody: P19.1: by ticks alone nothing goes, and comes, and no agent is told; but what is tracked lives no more.
func TestTickTellsNobody(t *testing.T) {
	w := leaving(t)
	sends(t, w, 1, talk(t, mac(3), 9))
	was, events := ofNet(w), len(w.Events())
	ticks(t, w, life-1)
	if l := w.Agent(1).Records(w.Now()); len(l) != 1 {
		t.Errorf("tracked: %+v", l)
	}
	ticks(t, w, 1)
	if l := w.Agent(1).Records(w.Now()); len(l) != 0 {
		t.Errorf("tracked: %+v", l)
	}
	if got := ofNet(w); got != was {
		t.Errorf("%s; was %s", got, was)
	}
	for n := range 4 {
		knows(t, w, n, moving(3, 1, 2, 1, 2), bound(4, 2, 1, 1))
	}
	then(t, w, events)
}

// TestTickDown: P19.1: NOW goes on while the controller is down, which is told it when it is started again: rows are late then, each once.
func TestTickDown(t *testing.T) {
	for _, n := range []int{1, span - 1, span, span + 1, last - noon} {
		w := each(t)
		crashes(t, w, nobody)
		ticks(t, w, n)
		if w.Now() != noon+n || w.Ctl() != nil {
			t.Errorf("Now is %d", w.Now())
		}
		starts(t, w, nobody)
		four, five := moving(4, 2, 0, 1, 2), moved(5, 1, 0, 2, 3)
		if n >= span {
			four, five = at(noon+n, bound(4, 2, 1, 3)), at(noon+n, bound(5, 1, 2, 4))
		}
		decided(t, w, bound(3, 1, 1, 1), four, five, gone(6, 1, 2))
		if r := does(t, w, asks(api.AddPort, 7, 3)); r != at(noon+n, bound(7, 3, 1, 1)) {
			t.Errorf("AddPort at %d: %+v", noon+n, r)
		}
	}
}

// TestTickUpAgain: P19.1: a controller that was started again ticks on from NOW.
func TestTickUpAgain(t *testing.T) {
	w := each(t)
	crashes(t, w, nobody)
	ticks(t, w, 4)
	starts(t, w, nobody)
	ticks(t, w, span-5)
	decided(t, w, bound(3, 1, 1, 1), moving(4, 2, 0, 1, 2), moved(5, 1, 0, 2, 3), gone(6, 1, 2))
	ticks(t, w, 1)
	decided(t, w, bound(3, 1, 1, 1), at(noon+span, bound(4, 2, 1, 3)), at(noon+span, bound(5, 1, 2, 4)), gone(6, 1, 2))
}
