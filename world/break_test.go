package world_test

import (
	"math"
	"slices"
	"strings"
	"testing"

	"rutter/api"
	"rutter/world"
)

// What a journal's records need of room.
const (
	rowRoom     = 35
	chassisRoom = 8
	bootRoom    = 12
)

// needs is how long the record of a call is that is done; 0, if it changes nothing.
func needs(x api.Call) int {
	switch x.Op {
	case api.AddChassis, api.RemoveChassis:
		return chassisRoom
	case api.Query:
		return 0
	}
	return rowRoom
}

// keeps are how much a file may keep of so many bytes: nothing, a part, all, and more.
func keeps(n int) []int {
	l := []int{math.MinInt, -1 << 32, -2, -1, n + 1, n + 2, 2 * n, 1 << 20, 1 << 32, math.MaxInt}
	for keep := range n + 1 {
		l = append(l, keep)
	}
	return l
}

// halts breaks a controller while it does a call, and checks what that tells.
func halts(t testing.TB, w *world.World, x api.Call, keep int, want api.Errno) {
	t.Helper()
	if e := w.Break(x, keep); e != want {
		t.Fatalf("Break of %+v: %d; want %d", x, e, want)
	}
	if w.Ctl() != nil {
		t.Fatalf("Break of %+v: the controller is up", x)
	}
	if e := w.Crash(nobody); e != api.ErrDown {
		t.Fatalf("behind a Break of %+v: Crash: %d", x, e)
	}
}

// beside tells all of a world but of its controller.
func beside(w *world.World) string {
	l := []string{ofNet(w)}
	for n := range 16 {
		l = append(l, ofWho(w, n))
	}
	return strings.Join(l, "\n")
}

// TestBreak: P19.1: a call of each op halfway: the controller is down, nothing is told, and when it is started again, it has what was ahead, if less than all of the record was kept, and else what is behind the call.
func TestBreak(t *testing.T) {
	for _, x := range dones() {
		behind := each(t)
		does(t, behind, x.x)
		ahead, all := each(t).Ctl(), needs(x.x)
		for _, keep := range keeps(all) {
			w := each(t)
			was := beside(w)
			halts(t, w, x.x, keep, api.OK)
			if got := beside(w); got != was || len(w.Events()) != 0 || w.Now() != noon {
				t.Errorf("Break of %+v: %s; was %s", x.x, got, was)
			}
			starts(t, w, nobody)
			want := ahead
			if keep >= all {
				want = behind.Ctl()
			}
			if c := w.Ctl(); c.Boot() != 2 || !slices.Equal(c.Rows(), want.Rows()) || !slices.Equal(c.Chassis(), want.Chassis()) {
				t.Fatalf("Break of %+v, that keeps %d: boot %d, %+v, %d; want %+v, %d", x.x, keep, c.Boot(), c.Rows(), c.Chassis(), want.Rows(), want.Chassis())
			}
		}
	}
}

// TestBreakFile: P19.1: what the file has behind it: all that it had, and so much of the record; all of that is safe.
func TestBreakFile(t *testing.T) {
	for _, x := range dones() {
		behind, w := each(t), each(t)
		was := string(fileOf(t, w).Bytes())
		does(t, behind, x.x)
		record := strings.TrimPrefix(string(fileOf(t, behind).Bytes()), was)
		if len(record) != needs(x.x) {
			t.Fatalf("%+v: the record %x", x.x, record)
		}
		for _, keep := range keeps(len(record)) {
			w := each(t)
			halts(t, w, x.x, keep, api.OK)
			f, want := fileOf(t, w), was+record[:min(max(keep, 0), len(record))]
			if got := string(f.Bytes()); got != want || f.Safe() != len(got) {
				t.Errorf("Break of %+v, that keeps %d: %x, %d safe; want %x", x.x, keep, got, f.Safe(), want)
			}
		}
	}
}

// TestBreakErrors: P19.1: of a call that has an error, Break tells it; the controller is down all the same, and has what it had, when it is started again.
func TestBreakErrors(t *testing.T) {
	for i, x := range refusals() {
		for _, keep := range []int{-1, 0, 1 + i, math.MaxInt} {
			w := each(t)
			rows, hosts := w.Ctl().Rows(), w.Ctl().Chassis()
			was := beside(w)
			halts(t, w, x.x, keep, x.e)
			if got := beside(w); got != was || len(w.Events()) != 0 {
				t.Errorf("Break of %+v: %s; was %s", x.x, got, was)
			}
			starts(t, w, nobody)
			decided(t, w, rows...)
			if c := w.Ctl(); c.Boot() != 2 || !slices.Equal(c.Chassis(), hosts) {
				t.Errorf("Break of %+v: boot %d, %d", x.x, c.Boot(), c.Chassis())
			}
		}
	}
}

// TestBreakDown: P19.1: while the controller is down that is the answer, ahead of all errors, and nothing is done.
func TestBreakDown(t *testing.T) {
	w := each(t)
	crashes(t, w, nobody)
	for _, port := range []int{-1, 3, 6, 7, 32} {
		for _, chassis := range []int{-1, 1, 3, 9, 16} {
			for _, x := range allOps(port, chassis) {
				for _, keep := range []int{-1, 0, rowRoom, math.MaxInt} {
					if e := w.Break(x, keep); e != api.ErrDown {
						t.Errorf("%+v: %d", x, e)
					}
				}
			}
		}
	}
	stays(t, w, "Break", api.ErrDown, func() api.Errno { return w.Break(adds(9), 99) })
	starts(t, w, nobody)
	decided(t, w, bound(3, 1, 1, 1), moving(4, 2, 0, 1, 2), moved(5, 1, 0, 2, 3), gone(6, 1, 2))
	if n := w.Ctl().Boot(); n != 2 {
		t.Errorf("boot %d", n)
	}
}

// TestBreakAgain: P19.1: breaks one behind the other, of which some were torn: each time all that was kept is there.
func TestBreakAgain(t *testing.T) {
	w := each(t)
	want := w.Ctl().Rows()
	for i, keep := range []int{0, 20, 35, 34, 1, 99, 35, 0, 35} {
		x := asks(api.Start, 3, 2)
		if want[0].Phase == api.Moving {
			x = asks(api.Abort, 3, 0)
		}
		halts(t, w, x, keep, api.OK)
		if keep >= rowRoom {
			want[0].Ver++
			want[0].Phase, want[0].Target = api.Moving-want[0].Phase, 2
			if want[0].Phase == api.Bound {
				want[0].Target = nobody
			}
		}
		starts(t, w, nobody)
		decided(t, w, want...)
		if n := w.Ctl().Boot(); n != 2+i {
			t.Errorf("boot %d behind %d breaks", n, i+1)
		}
		if keep == 34 {
			// What is done behind a torn record is there as well.
			want[1] = does(t, w, asks(api.Abort, 4, 0))
		}
	}
}
