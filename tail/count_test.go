package tail_test

import (
	"slices"
	"testing"

	"rutter/api"
	"rutter/tail"
	"rutter/world"
)

// mute is a town whose controller says nothing any more.
func mute(t testing.TB) *world.World {
	t.Helper()
	w := town(t)
	ok(t, w.Ctl().Half(asks(api.RemovePort, 3, 0)))
	return w
}

// turned is a town in which port 3 moved from 1 to 2, which 0 hasn't heard.
func turned(t testing.TB) *world.World {
	t.Helper()
	w := town(t)
	does(t, w, asks(api.Start, 3, 2), asks(api.Commit, 3, 0))
	tellsBut(t, w, 0)
	return w
}

// counts checks a round of a world, lost and not, of so many letters, and so much data.
func counts(t *testing.T, name string, how func(t testing.TB) *world.World, letters, data int) {
	t.Helper()
	for _, lost := range []bool{true, false} {
		w, want := how(t), data
		if !lost {
			want += letters
		}
		if n, e := tail.Round(w, lost); n != want || e != api.OK || w.Len() != 0 {
			t.Errorf("%s, lost %v: %d, %d, %d under way; want %d", name, lost, n, e, w.Len(), want)
		}
	}
}

// behind is how a world is made, and something is done with it.
func behind(how func(t testing.TB) *world.World, l ...func(t testing.TB, w *world.World)) func(t testing.TB) *world.World {
	return func(t testing.TB) *world.World {
		t.Helper()
		w := how(t)
		for _, f := range l {
			f(t, w)
		}
		return w
	}
}

// emptied leaves no members: the agents are up, and have the rows that they had, but nobody tells them, or is told, anything.
func emptied(t testing.TB, w *world.World) {
	for _, r := range w.Ctl().Rows() {
		if r.Phase == api.Moved {
			does(t, w, asks(api.Commit, r.Port, 0))
		}
		does(t, w, asks(api.RemovePort, r.Port, 0))
	}
	for _, n := range w.Ctl().Chassis() {
		does(t, w, asks(api.RemoveChassis, 0, n))
	}
}

// guest lets a frame from 0 to port 3 be under way; doubled lets all that is be so twice; spoken what the controller and 0 send; fallen lets 1 be down.
func guest(t testing.TB, w *world.World) { sends(t, w, 0, plainFrame(3)) }

func doubled(t testing.TB, w *world.World) {
	for i := range w.Len() {
		ok(t, w.Double(i))
	}
}

func spoken(t testing.TB, w *world.World) { steps(t, w, nobody, 0) }

func fallen(t testing.TB, w *world.World) { crashes(t, w, 1) }

// TestRoundCountsNone: P22.1: where nothing is under way nothing is delivered, lost or not.
func TestRoundCountsNone(t *testing.T) {
	counts(t, "no members", func(t testing.TB) *world.World { return made(t, span) }, 0, 0)
	counts(t, "none any more", behind(town, emptied), 0, 0)
	counts(t, "nobody says anything", behind(mute, func(t testing.TB, w *world.World) { crashes(t, w, 0, 1, 2, 3) }), 0, 0)
}

// TestRoundCountsLetters: P22.1: of letters alone, up, down, or both, ahead of the round, and in it, all are delivered, but none if it is lost.
func TestRoundCountsLetters(t *testing.T) {
	counts(t, "up", mute, 4, 0)
	counts(t, "up, ahead", behind(mute, func(t testing.TB, w *world.World) { steps(t, w, 2, 3) }), 2+4, 0)
	counts(t, "down", func(t testing.TB) *world.World { return made(t, span, 0, 1, 15) }, 3, 0)
	counts(t, "down, ahead", behind(func(t testing.TB) *world.World { return made(t, span, 0, 1, 15) }, func(t testing.TB, w *world.World) { steps(t, w, nobody) }), 3+3, 0)
	counts(t, "both", town, 8, 0)
	counts(t, "both, ahead, and doubled", behind(town, spoken, doubled), 2*5+8, 0)
	counts(t, "with bodies", turned, 8+4, 0)
}

// TestRoundCountsData: P22.1: of data alone all is delivered, lost or not: what comes to who is up, or down, and what is sent on.
func TestRoundCountsData(t *testing.T) {
	counts(t, "one", behind(town, emptied, guest), 0, 1)
	counts(t, "one to who is down", behind(town, emptied, guest, fallen), 0, 1)
	counts(t, "many", behind(town, emptied, guest, guest, doubled, doubled), 0, 8)
	counts(t, "sent on", behind(turned, emptied, guest), 0, 2)
}

// TestRoundCountsBoth: P22.1: of letters and data, whichever stand ahead of the others, all are delivered, but the data alone if the round is lost.
func TestRoundCountsBoth(t *testing.T) {
	counts(t, "data ahead", behind(town, guest), 8, 1)
	counts(t, "data between", behind(town, spoken, guest), 5+8, 1)
	counts(t, "data on both sides", behind(town, guest, spoken, guest), 5+8, 2)
	counts(t, "doubled", behind(town, guest, spoken, doubled), 2*5+8, 2)
	counts(t, "data to who is down", behind(town, guest, fallen), 4+3, 1)
	counts(t, "data behind letters up alone", behind(mute, func(t testing.TB, w *world.World) { steps(t, w, 0, 1) }, guest), 2+4, 1)
	counts(t, "sent on", behind(turned, guest), 8+4, 2)
}

// TestRoundCountsInATown: P22.1: one item of data, and four letters of two members, in a round that is lost behind a Run.
func TestRoundCountsInATown(t *testing.T) {
	w, e := world.New(10, 10)
	ok(t, e)
	adds(t, w, 1, 2)
	does(t, w, api.Call{Op: api.AddPort, Port: 3, Chassis: 1, MAC: 7}, api.Call{Op: api.Start, Port: 3, Chassis: 2})
	_, e = tail.Run(w, tail.Bound(10, 0), 1)
	ok(t, e)
	settled(t, w, true)
	id := sends(t, w, 2, api.Frame{Dst: 7})
	if n, e := tail.Round(w, true); n != 1 || e != api.OK || w.Len() != 0 {
		t.Errorf("%d, %d, %d under way", n, e, w.Len())
	}
	if l := delivered(w, id); !slices.Equal(l, []int{1}) {
		t.Errorf("delivered at %d", l)
	}
	goes(t, w, false, 4, 0)
}
