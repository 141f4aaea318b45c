package world_test

import (
	"math"
	"slices"
	"testing"

	"rutter/api"
	"rutter/ctl"
	"rutter/disk"
	"rutter/world"
)

// each is a town with a row of each phase: port 3 is bound at 1, 4 moving from 2 to 0, 5 has moved from 0 to 1, and 6 is gone. Nobody has heard of it yet.
func each(t testing.TB) *world.World {
	t.Helper()
	w := town(t)
	for _, x := range changes() {
		does(t, w, x)
	}
	decided(t, w, bound(3, 1, 1, 1), moving(4, 2, 0, 1, 2), moved(5, 1, 0, 2, 3), gone(6, 1, 2))
	return w
}

// changes are the calls with which a town has a row of each phase.
func changes() []api.Call {
	return []api.Call{
		asks(api.Start, 4, 0),
		asks(api.AddPort, 5, 0), asks(api.Start, 5, 1), asks(api.Commit, 5, 0),
		asks(api.AddPort, 6, 3), asks(api.RemovePort, 6, 0),
	}
}

// wrongOps are those that there aren't.
func wrongOps() []api.Op { return []api.Op{math.MinInt, -2, -1, 8, 9, 255, 256, 258, math.MaxInt} }

// allOps are calls of each op, and of others, at a port and a chassis.
func allOps(port, chassis int) []api.Call {
	var l []api.Call
	for op := api.AddChassis; op <= api.Query; op++ {
		l = append(l, asks(op, port, chassis))
	}
	for _, op := range wrongOps() {
		l = append(l, asks(op, port, chassis))
	}
	return l
}

// done is a call that is done behind each, and the row that it answers.
type done struct {
	x   api.Call
	row api.Row
}

// dones are one of each op, and of each thing that it does.
func dones() []done {
	anew := bound(6, 3, 2, 3)
	anew.MAC = 9
	return []done{
		{adds(9), api.Row{}},
		{api.Call{Op: api.RemoveChassis, Chassis: 3}, api.Row{}},
		{asks(api.AddPort, 31, 3), bound(31, 3, 1, 1)},
		{api.Call{Op: api.AddPort, Port: 6, Chassis: 3, MAC: 9}, anew},
		{asks(api.RemovePort, 3, 0), gone(3, 1, 2)},
		{asks(api.Start, 3, 3), moving(3, 1, 3, 1, 2)},
		{asks(api.Commit, 4, 0), moved(4, 0, 2, 2, 3)},
		{asks(api.Commit, 5, 0), bound(5, 1, 2, 4)},
		{asks(api.Abort, 4, 0), bound(4, 2, 1, 3)},
		{asks(api.Query, 5, 0), moved(5, 1, 0, 2, 3)},
	}
}

// refused is a call that has an error behind each.
type refused struct {
	x api.Call
	e api.Errno
}

// refusals are calls with each error of each op.
func refusals() []refused {
	l := []refused{
		{adds(1), api.ErrTwice},
		{api.Call{Op: api.RemoveChassis, Chassis: 9}, api.ErrNone},
		{api.Call{Op: api.RemoveChassis, Chassis: 1}, api.ErrUsed},
		{asks(api.AddPort, 3, 1), api.ErrTwice},
		{asks(api.AddPort, 4, 1), api.ErrTwice},
		{asks(api.AddPort, 5, 16), api.ErrTwice},
		{asks(api.AddPort, 7, 9), api.ErrNone},
		{asks(api.AddPort, 6, 16), api.ErrArg},
		{asks(api.AddPort, 32, 1), api.ErrArg},
		{api.Call{Op: api.AddPort, Port: 7, Chassis: 1, MAC: mac(3)}, api.ErrTwice},
		{api.Call{Op: api.AddPort, Port: 7, Chassis: 1, MAC: 1 << 48}, api.ErrArg},
		{asks(api.RemovePort, 4, 0), api.ErrState},
		{asks(api.Start, 4, 3), api.ErrState},
		{asks(api.Start, 3, 1), api.ErrSame},
		{asks(api.Start, 3, 9), api.ErrNone},
		{asks(api.Start, 3, -1), api.ErrArg},
		{asks(api.Commit, 3, 0), api.ErrState},
		{asks(api.Abort, 5, 0), api.ErrState},
	}
	for op := api.RemovePort; op <= api.Query; op++ {
		for _, port := range []int{-1, 6, 7, 32} {
			l = append(l, refused{asks(op, port, 1), api.ErrNone})
		}
	}
	for _, n := range wrongChassis() {
		l = append(l, refused{adds(n), api.ErrArg})
	}
	for _, op := range wrongOps() {
		l = append(l, refused{asks(op, 3, 2), api.ErrArg})
	}
	return l
}

// TestAPI: P19.1: what a call of each op answers, and what it does: the row, or the chassis, is the controller's, and told to those who are known.
func TestAPI(t *testing.T) {
	for _, x := range dones() {
		w := each(t)
		was := w.Ctl().Chassis()
		if r, e := w.API(x.x); r != x.row || e != api.OK {
			t.Errorf("%+v: %+v, %d; want %+v", x.x, r, e, x.row)
		}
		if x.row.Ver > 0 && !slices.Contains(w.Ctl().Rows(), x.row) {
			t.Errorf("%+v: the controller has %+v", x.x, w.Ctl().Rows())
		}
		if c := w.Ctl().Chassis(); slices.Equal(c, was) != (x.x.Op != api.AddChassis && x.x.Op != api.RemoveChassis) {
			t.Errorf("%+v: the controller has the chassis %d", x.x, c)
		}
		happened(t, w)
		carries(t, w)
		rounds(t, w, 4)
		if l := w.Ctl().Rows(); !slices.Equal(w.Agent(2).Rows(), l) {
			t.Errorf("%+v: 2 was told %+v", x.x, w.Agent(2).Rows())
		}
	}
}

// TestAPIErrors: P19.1: each error of each op; nothing is changed then.
func TestAPIErrors(t *testing.T) {
	w := each(t)
	for _, x := range refusals() {
		stays(t, w, "API", x.e, func() api.Errno {
			r, e := w.API(x.x)
			if r != (api.Row{}) || e != x.e {
				t.Errorf("%+v: %+v, %d; want the error %d", x.x, r, e, x.e)
			}
			return e
		})
	}
}

// TestAPIDown: P19.1: while the controller is down that is the answer, ahead of all errors; when it is up again, nothing was done.
func TestAPIDown(t *testing.T) {
	for _, broken := range []bool{false, true} {
		w := each(t)
		if broken {
			w.Break(asks(api.Query, 3, 0), 0)
		} else {
			crashes(t, w, nobody)
		}
		for _, port := range []int{-1, 3, 4, 5, 6, 7, 32} {
			for _, chassis := range []int{-1, 1, 3, 9, 16} {
				for _, x := range allOps(port, chassis) {
					if r, e := w.API(x); r != (api.Row{}) || e != api.ErrDown {
						t.Errorf("%+v: %+v, %d", x, r, e)
					}
				}
			}
		}
		stays(t, w, "API", api.ErrDown, func() api.Errno { _, e := w.API(adds(9)); return e })
		starts(t, w, nobody)
		decided(t, w, bound(3, 1, 1, 1), moving(4, 2, 0, 1, 2), moved(5, 1, 0, 2, 3), gone(6, 1, 2))
		if r, e := w.API(asks(api.Query, 3, 0)); r != bound(3, 1, 1, 1) || e != api.OK {
			t.Errorf("up again: %+v, %d", r, e)
		}
	}
}

// TestAPILike: P19.1: calls answer what they do of a controller alone, on a file of its own, at the world's time.
func TestAPILike(t *testing.T) {
	c, w := chance(7), made(t, span, life)
	f, _ := disk.New(1 << 20)
	alone, e := ctl.Open(f, span, 0)
	if e != api.OK {
		t.Fatalf("Open: %d", e)
	}
	for n := range 4 {
		alone.Do(adds(n))
		does(t, w, adds(n))
	}
	seen := map[api.Errno]int{}
	for i := range 4000 {
		if c.below(20) == 0 {
			ticks(t, w, 1+c.below(9))
			alone.Tick(w.Now())
		}
		x := c.call(alone)
		want, we := alone.Do(x)
		if r, e := w.API(x); r != want || e != we {
			t.Fatalf("call %d: %+v: %+v, %d; want %+v, %d", i, x, r, e, want, we)
		}
		if got, want := ofCtl(w.Ctl()), ofCtl(alone); got != want {
			t.Fatalf("call %d: %+v: %s; want %s", i, x, got, want)
		}
		seen[we]++
	}
	for _, e := range []api.Errno{api.OK, api.ErrArg, api.ErrNone, api.ErrTwice, api.ErrState, api.ErrSame, api.ErrUsed} {
		if seen[e] < 20 {
			t.Errorf("of the error %d too few: %v", e, seen)
		}
	}
}
