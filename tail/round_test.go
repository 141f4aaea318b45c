package tail_test

import (
	"math"
	"slices"
	"testing"

	"rutter/api"
	"rutter/tail"
	"rutter/world"
)

// TestRoundOfNil: P22.1: there is no world.
func TestRoundOfNil(t *testing.T) {
	for _, lost := range []bool{false, true} {
		if n, e := tail.Round(nil, lost); n != 0 || e != api.ErrArg {
			t.Errorf("%v: %d, %d", lost, n, e)
		}
	}
}

// TestRoundWhileDown: P22.1: with the controller down there is no round, whatever is under way, and also at the end of time.
func TestRoundWhileDown(t *testing.T) {
	w := made(t, span)
	crashes(t, w, nobody)
	stands(t, w, api.ErrDown)
	w = town(t)
	steps(t, w, nobody, 0, 1)
	sends(t, w, 0, plainFrame(3))
	crashes(t, w, nobody)
	stands(t, w, api.ErrDown)
	ok(t, w.Tick(1<<40))
	stands(t, w, api.ErrDown)
	begins(t, w)
	stands(t, w, api.ErrArg)
}

// TestRoundAtTheEnd: P22.1: as long as the time does not end there is a round; then Tick's error, and nothing is done.
func TestRoundAtTheEnd(t *testing.T) {
	for _, lost := range []bool{false, true} {
		w := town(t)
		ok(t, w.Tick(1<<40-2))
		goes(t, w, lost, 8, 0)
		goes(t, w, lost, 8, 0)
		steps(t, w, nobody, 0, 1)
		sends(t, w, 0, plainFrame(3))
		stands(t, w, api.ErrArg)
	}
}

// TestRoundOfNone: P22.1: with no member, and nothing under way, a tick passes, and nothing comes.
func TestRoundOfNone(t *testing.T) {
	w := made(t, span)
	goes(t, w, false, 0, 0)
	goes(t, w, true, 0, 0)
	starts(t, w, 3)
	goes(t, w, false, 0, 0)
}

// TestRound: P22.1: of each member that is up a letter goes up, and one goes down to each, also to one that is down: all come.
func TestRound(t *testing.T) {
	for up := range 16 {
		w := made(t, span, 0, 1, 2, 3)
		l := bits(up)
		starts(t, w, l...)
		goes(t, w, false, 4+len(l), 0)
		for n := range 4 {
			want := up >> n & 1
			if got := knows(t, w, n); got != want {
				t.Errorf("%04b: the controller knows boot %d of %d", up, got, n)
			}
			if a := w.Agent(n); a != nil && a.Peer() != 1 {
				t.Errorf("%04b: %d knows boot %d", up, n, a.Peer())
			}
		}
		goes(t, w, false, 4+len(l), 0)
	}
}

// TestRoundOfOthers: P22.1: chassis that are no members don't step, and nothing goes to them.
func TestRoundOfOthers(t *testing.T) {
	w := made(t, span, 1)
	starts(t, w, 0, 1, 15)
	goes(t, w, false, 2, 0)
	// They would be known, if they were members only when what they sent came.
	adds(t, w, 0, 15)
	for _, n := range []int{0, 15} {
		if w.Agent(n).Peer() != 0 || knows(t, w, n) != 0 {
			t.Errorf("%d: %s", n, look(w))
		}
	}
	if w.Agent(1).Peer() != 1 || knows(t, w, 1) != 1 {
		t.Error(look(w))
	}
	goes(t, w, false, 6, 0)
	does(t, w, asks(api.RemoveChassis, 0, 1))
	goes(t, w, false, 4, 0)
}

// ahead lets letters of each way, and data, be under way: one letter up of 0, one down to each member, and a frame from 0 to port 3 at 1.
func ahead(t testing.TB, w *world.World) {
	t.Helper()
	steps(t, w, 0, nobody)
	sends(t, w, 0, plainFrame(3))
	if w.Len() != 6 {
		t.Fatal(look(w))
	}
}

// delivered are the chassis at which what was injected was delivered.
func delivered(w *world.World, id int) []int {
	var l []int
	for _, x := range w.Events() {
		if (x.What == 1 || x.What == 2) && x.ID == id && x.Done == 1 {
			l = append(l, x.Chassis)
		}
	}
	return l
}

// TestRoundOfWhatIsAhead: P22.1: what is under way ahead of a round comes, ahead of what goes then.
func TestRoundOfWhatIsAhead(t *testing.T) {
	w := made(t, span, 0, 1, 2, 3)
	does(t, w, asks(api.AddPort, 3, 1))
	starts(t, w, 0, 1, 2, 3)
	talks(t, w, 4, 0, 1, 2, 3)
	crashes(t, w, 2)
	ahead(t, w)
	goes(t, w, false, 5+4+3, 1)
	if l := delivered(w, 1); !slices.Equal(l, []int{1}) {
		t.Errorf("delivered at %d", l)
	}
	if w.Lost() != 0 {
		t.Errorf("%d lost", w.Lost())
	}
}

// TestRoundThatIsLost: P22.1: of a round that is lost what goes up or down is dropped, ahead of it and in it, and not counted; data is delivered, and is.
func TestRoundThatIsLost(t *testing.T) {
	w := town(t)
	does(t, w, asks(api.Start, 3, 2))
	rows, boots := w.Agent(0).Rows(), w.Ctl().Boot()
	ahead(t, w)
	goes(t, w, true, 5+4+4, 1)
	if l := delivered(w, 1); !slices.Equal(l, []int{1}) {
		t.Errorf("delivered at %d", l)
	}
	for n := range 4 {
		if !slices.Equal(w.Agent(n).Rows(), rows) || w.Ctl().Idle(n) || !w.Agent(n).Idle() {
			t.Errorf("%d heard something: %s", n, look(w))
		}
	}
	if w.Lost() != 0 || w.Ctl().Boot() != boots {
		t.Error(look(w))
	}
	goes(t, w, false, 8, 0)
	for n := range 4 {
		if !slices.Equal(w.Agent(n).Rows(), w.Ctl().Rows()) {
			t.Errorf("%d heard nothing: %s", n, look(w))
		}
	}
}

// TestRoundThatLosesAll: P22.1: as long as rounds are lost nobody hears of anybody, however many there are.
func TestRoundThatLosesAll(t *testing.T) {
	w := made(t, span, 0, 1, 2, 3)
	does(t, w, asks(api.AddPort, 3, 1))
	begins(t, w)
	for range 50 {
		goes(t, w, true, 8, 0)
	}
	for n := range 4 {
		if w.Agent(n).Peer() != 0 || knows(t, w, n) != 0 {
			t.Errorf("%d: %s", n, look(w))
		}
	}
}

// TestRoundTicksFirst: P22.1: what the tick makes late goes in the same round, and comes at that time.
func TestRoundTicksFirst(t *testing.T) {
	w := town(t)
	does(t, w, asks(api.Start, 3, 2))
	for i := range span - 1 {
		goes(t, w, false, 8, 0)
		for n := range 4 {
			if r := w.Agent(n).Rows()[0]; r.Phase != api.Moving {
				t.Fatalf("round %d: %d has %+v", i, n, r)
			}
		}
	}
	goes(t, w, false, 8, 0)
	for n := range 4 {
		if r := w.Agent(n).Rows()[0]; r.Phase != api.Bound || r.Since != span {
			t.Errorf("%d has %+v", n, r)
		}
	}
}

// TestRoundTellsTheTime: P22.1: what comes in a round does so at the time behind the tick.
func TestRoundTellsTheTime(t *testing.T) {
	w := town(t)
	sends(t, w, 0, plainFrame(3))
	goes(t, w, false, 8, 1)
	l := w.Events()
	if len(l) != 2 || l[0].Time != 0 || l[1].Time != 1 {
		t.Errorf("%+v", l)
	}
}

// TestRoundOnward: P22.1: what is sent on in a round comes in it, too, lost or not: by an elder row, over the chassis where the port was.
func TestRoundOnward(t *testing.T) {
	for _, lost := range []bool{false, true} {
		w := turned(t)
		id := sends(t, w, 0, plainFrame(3))
		// Two letters go to each, of the rows, and of each one goes up; data comes to 1, and on from there to 2.
		goes(t, w, lost, 8+4, 2)
		if l := delivered(w, id); !slices.Equal(l, []int{2}) {
			t.Errorf("lost %v: delivered at %d", lost, l)
		}
	}
}

// TestRoundByMembers: P22.1: the members step by chassis, rising, whoever was added, started or heard first.
func TestRoundByMembers(t *testing.T) {
	w := made(t, span, 7, 0, 15, 3)
	starts(t, w, 15, 3, 7, 0)
	for i, way := range [][2]int{{3, 7}, {3, 0}, {0, 15}, {0, 3}} {
		does(t, w, asks(api.AddPort, i, way[0]), asks(api.Start, i, way[1]))
	}
	talks(t, w, 4, 0, 3, 7, 15)
	for _, i := range []int{2, 0, 3, 1} {
		sends(t, w, w.Ctl().Rows()[i].Target, announces(i))
	}
	from := len(w.Events())
	goes(t, w, false, 8, 0)
	var l []int
	for _, x := range w.Events()[from:] {
		if x.What == 0 {
			l = append(l, x.Chassis)
		}
	}
	if !slices.Equal(l, []int{0, 3, 7, 15}) {
		t.Errorf("they step as %d", l)
	}
}

// narrow is a world of members 0, 3 and 15, all up, of which nobody has heard, with room for so many items more in the net.
func narrow(t testing.TB, left int) *world.World {
	t.Helper()
	w := made(t, span, 0, 3, 15)
	starts(t, w, 0, 3, 9, 15)
	// A letter of one that is no member does nothing when it comes.
	steps(t, w, 9)
	for w.Len() < api.MaxFrames-left {
		ok(t, w.Double(0))
	}
	return w
}

// TestRoundByRoom: P22.1: the controller steps first, then the members, rising: who comes first has what room there is.
func TestRoundByRoom(t *testing.T) {
	for left := range 9 {
		w := narrow(t, left)
		came := min(left, 6)
		goes(t, w, false, api.MaxFrames-left+came, 0)
		if w.Lost() != 6-came {
			t.Errorf("room for %d: %d lost", left, w.Lost())
		}
		for i, n := range []int{0, 3, 15} {
			if got, want := w.Agent(n).Peer() > 0, i < left; got != want {
				t.Errorf("room for %d: %d has heard: %v; want %v", left, n, got, want)
			}
			if got, want := knows(t, w, n) > 0, 3+i < left; got != want {
				t.Errorf("room for %d: the controller has heard of %d: %v; want %v", left, n, got, want)
			}
		}
	}
}

// TestRoundByRoomThatIsLost: P22.1: so it is where nothing comes, and nothing is delivered; what is full is empty then.
func TestRoundByRoomThatIsLost(t *testing.T) {
	for left := range 9 {
		w := narrow(t, left)
		for _, letters := range []int{api.MaxFrames - left + min(left, 6), 6} {
			goes(t, w, true, letters, 0)
			if w.Lost() != max(6-left, 0) {
				t.Errorf("room for %d: %d lost", left, w.Lost())
			}
		}
	}
}

// TestRoundOfMostOnward: P22.1: a net that is full of data, all of which is sent on: twice as many items come.
func TestRoundOfMostOnward(t *testing.T) {
	for _, lost := range []bool{false, true} {
		w := town(t)
		does(t, w, asks(api.Start, 3, 2), asks(api.Commit, 3, 0))
		for _, n := range []int{1, 2} {
			believes(t, w, n, 9, w.Ctl().Rows()...)
		}
		id := sends(t, w, 0, plainFrame(3))
		for w.Len() < api.MaxFrames {
			ok(t, w.Double(0))
		}
		goes(t, w, lost, 0, 2*api.MaxFrames)
		if l := delivered(w, id); len(l) != api.MaxFrames || l[0] != 2 {
			t.Errorf("delivered %d times", len(l))
		}
	}
}

// TestRoundOfAStopped: P1: a controller that was stopped by who should but read it is up, and says nothing any more.
func TestRoundOfAStopped(t *testing.T) {
	w := town(t)
	ok(t, w.Ctl().Half(asks(api.RemovePort, 3, 0)))
	settled(t, w, false)
	goes(t, w, false, 4, 0)
	goes(t, w, true, 4, 0)
	begins(t, w)
	settled(t, w, false)
	runs(t, w, 3, 0, 0, api.ErrState)
	runs(t, w, math.MinInt, 0, 0, api.ErrState)
}
