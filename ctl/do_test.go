package ctl_test

import (
	"math"
	"slices"
	"testing"

	"rutter/api"
)

// noted checks that a call is done, answers this, and is noted so: safe, behind what was there.
func (d *desk) noted(t *testing.T, x api.Call, want api.Row, record string) {
	t.Helper()
	n := len(d.f.Bytes())
	d.does(t, x, want)
	if got := d.tail(t, n); got != whole(record) {
		t.Fatalf("%+v: noted %x; want %x", x, got, whole(record))
	}
}

// becomes checks that a call answers a row, that is noted, and is the port's then.
func (d *desk) becomes(t *testing.T, x api.Call, want api.Row) {
	t.Helper()
	d.noted(t, x, want, ofRow(want))
	if got := d.row(x.Port); got != want {
		t.Fatalf("%+v: the row %+v; want %+v", x, got, want)
	}
}

// TestDoChassis: K1: chassis come and go, and that is noted; what a call has beside its chassis is nothing to it.
func TestDoChassis(t *testing.T) {
	f := file(t, much, "")
	d := &desk{opened(t, f, noon), f}
	for _, n := range []int{3, 0, 15} {
		d.noted(t, api.Call{Op: api.AddChassis, Chassis: n, Port: -7, MAC: math.MaxUint64}, api.Row{}, ofAdded(n))
	}
	if got := d.Chassis(); !slices.Equal(got, []int{0, 3, 15}) {
		t.Errorf("%d", got)
	}
	d.refuses(t, api.Call{Op: api.AddChassis, Chassis: 3}, api.ErrTwice)
	d.refuses(t, api.Call{Op: api.RemoveChassis, Chassis: 4}, api.ErrNone)
	for _, n := range wrongChassis() {
		d.refuses(t, api.Call{Op: api.AddChassis, Chassis: n}, api.ErrArg)
		d.refuses(t, api.Call{Op: api.RemoveChassis, Chassis: n}, api.ErrNone)
	}
	d.noted(t, api.Call{Op: api.RemoveChassis, Chassis: 3, Port: 99, MAC: 1 << 50}, api.Row{}, ofRemoved(3))
	d.refuses(t, api.Call{Op: api.RemoveChassis, Chassis: 3}, api.ErrNone)
	d.noted(t, api.Call{Op: api.AddChassis, Chassis: 3}, api.Row{}, ofAdded(3))
	for n := range 16 {
		if !slices.Contains(d.Chassis(), n) {
			d.noted(t, api.Call{Op: api.AddChassis, Chassis: n}, api.Row{}, ofAdded(n))
		}
	}
	if got := d.Chassis(); len(got) != 16 || !slices.IsSorted(got) {
		t.Errorf("%d", got)
	}
}

// TestDoUsed: K1: a chassis that a row names, as Owner, Target or Old, stays; one that none does any more goes.
func TestDoUsed(t *testing.T) {
	d := each(t)
	for n := range 3 {
		d.refuses(t, api.Call{Op: api.RemoveChassis, Chassis: n}, api.ErrUsed)
	}
	d.noted(t, api.Call{Op: api.RemoveChassis, Chassis: 3}, api.Row{}, ofRemoved(3))
	d.does(t, api.Call{Op: api.Abort, Port: 2}, bound(2, 0, 6, 11))
	d.noted(t, api.Call{Op: api.RemoveChassis, Chassis: 1}, api.Row{}, ofRemoved(1))
	d.does(t, api.Call{Op: api.Commit, Port: 3}, bound(3, 2, 7, 12))
	d.refuses(t, api.Call{Op: api.RemoveChassis, Chassis: 0}, api.ErrUsed)
	d.does(t, api.Call{Op: api.RemovePort, Port: 1}, gone(1, 5, 10))
	d.does(t, api.Call{Op: api.RemovePort, Port: 2}, gone(2, 6, 12))
	d.noted(t, api.Call{Op: api.RemoveChassis, Chassis: 0}, api.Row{}, ofRemoved(0))
}

// TestDoAddPort: K1: a port that has no row gets a first one; one that is gone goes on with its generation, and its version.
func TestDoAddPort(t *testing.T) {
	d := each(t)
	for _, x := range []struct {
		port, chassis int
		mac           uint64
	}{
		{0, 3, 0}, {31, 0, 1<<48 - 1}, {17, 2, mac(4)},
	} {
		d.becomes(t, api.Call{Op: api.AddPort, Port: x.port, Chassis: x.chassis, MAC: x.mac}, with(x.mac, bound(x.port, x.chassis, 1, 1)))
	}
	d.refuses(t, api.Call{Op: api.AddPort, Port: 4, Chassis: 1, MAC: mac(4)}, api.ErrTwice)
	d.becomes(t, api.Call{Op: api.AddPort, Port: 4, Chassis: 1, MAC: 44}, with(44, bound(4, 1, 9, 13)))
	d.becomes(t, api.Call{Op: api.RemovePort, Port: 17}, with(mac(4), gone(17, 1, 2)))
	d.becomes(t, api.Call{Op: api.AddPort, Port: 17, Chassis: 2, MAC: mac(4)}, with(mac(4), bound(17, 2, 2, 3)))
}

// TestDoAddPortErrors: K1: ErrTwice of a port that is not gone, whatever else is wrong; then 9's; then 10's: a chassis that isn't there, an address that another port has.
func TestDoAddPortErrors(t *testing.T) {
	d := begun(t, bound(1, 0, 5, 9), moving(2, 0, 1, 6, 10), moved(3, 2, 0, 7, 11), gone(4, 8, 12), with(40, gone(5, 1<<32, 3)), with(50, gone(6, 9, 1<<40-15)), with(60, gone(7, 9, 1<<40-16)))
	for _, port := range []int{1, 2, 3} {
		for _, n := range append(wrongChassis(), 0, 9) {
			for _, m := range []uint64{7, mac(1), 1 << 48, math.MaxUint64} {
				d.refuses(t, api.Call{Op: api.AddPort, Port: port, Chassis: n, MAC: m}, api.ErrTwice)
			}
		}
	}
	for _, port := range []int{0, 4, 5, 6} {
		for _, n := range wrongChassis() {
			d.refuses(t, api.Call{Op: api.AddPort, Port: port, Chassis: n, MAC: mac(1)}, api.ErrArg)
		}
		for _, m := range []uint64{1 << 48, 1 << 63, math.MaxUint64} {
			d.refuses(t, api.Call{Op: api.AddPort, Port: port, Chassis: 9, MAC: m}, api.ErrArg)
		}
	}
	for _, port := range wrongPorts() {
		d.refuses(t, api.Call{Op: api.AddPort, Port: port, Chassis: 9, MAC: mac(1)}, api.ErrArg)
	}
	for _, port := range []int{5, 6} {
		d.refuses(t, api.Call{Op: api.AddPort, Port: port, Chassis: 9, MAC: mac(1)}, api.ErrGen)
	}
	for _, port := range []int{0, 4, 7} {
		for n := 4; n < 16; n++ {
			d.refuses(t, api.Call{Op: api.AddPort, Port: port, Chassis: n, MAC: mac(1)}, api.ErrNone)
		}
		for p := 1; p < 4; p++ {
			d.refuses(t, api.Call{Op: api.AddPort, Port: port, Chassis: 3, MAC: mac(p)}, api.ErrTwice)
		}
	}
	d.becomes(t, api.Call{Op: api.AddPort, Port: 7, Chassis: 3, MAC: mac(4)}, with(mac(4), bound(7, 3, 10, 1<<40-15)))
	d.refuses(t, api.Call{Op: api.AddPort, Port: 4, Chassis: 3, MAC: mac(4)}, api.ErrTwice)
}

// TestDoActs: K1: each op on a port that is bound, moving, moved, gone, and has no row: what it answers, or its error.
func TestDoActs(t *testing.T) {
	const none, state = api.ErrNone, api.ErrState
	for _, x := range []struct {
		op   api.Op
		rows [4]api.Row // of ports 1 to 4; 0, where there is an error
		errs [4]api.Errno
	}{
		{api.RemovePort, [4]api.Row{gone(1, 5, 10)}, [4]api.Errno{0, state, state, none}},
		{api.Start, [4]api.Row{moving(1, 0, 3, 5, 10)}, [4]api.Errno{0, state, state, none}},
		{api.Commit, [4]api.Row{1: moved(2, 1, 0, 7, 11), 2: bound(3, 2, 7, 12)}, [4]api.Errno{state, 0, 0, none}},
		{api.Abort, [4]api.Row{1: bound(2, 0, 6, 11)}, [4]api.Errno{state, 0, state, none}},
	} {
		for i, want := range x.rows {
			d, call := each(t), api.Call{Op: x.op, Port: i + 1, Chassis: 3, MAC: math.MaxUint64}
			if x.errs[i] != api.OK {
				d.refuses(t, call, x.errs[i])
				continue
			}
			rest := d.Rows()
			d.becomes(t, call, want)
			rest[i] = want
			d.has(t, rest...)
		}
		d := each(t)
		for _, port := range append(wrongPorts(), 0, 5, 31) {
			d.refuses(t, api.Call{Op: x.op, Port: port, Chassis: 3}, api.ErrNone)
		}
	}
}

// TestDoPlain: K1: RemovePort, Commit and Abort don't look at a chassis, nor at an address.
func TestDoPlain(t *testing.T) {
	for _, n := range append(wrongChassis(), 0, 9) {
		d := each(t)
		d.becomes(t, api.Call{Op: api.RemovePort, Port: 1, Chassis: n, MAC: 1 << 48}, gone(1, 5, 10))
		d.becomes(t, api.Call{Op: api.Abort, Port: 2, Chassis: n, MAC: 1 << 48}, bound(2, 0, 6, 11))
		d.becomes(t, api.Call{Op: api.Commit, Port: 3, Chassis: n, MAC: 1 << 48}, bound(3, 2, 7, 12))
	}
}

// TestDoStart: K1: Start's errors in their order: the port, the chassis, the phase, the owner, the generation, a chassis that isn't there.
func TestDoStart(t *testing.T) {
	d := begun(t, bound(1, 0, 5, 9), moving(2, 0, 1, 6, 10), moved(3, 2, 0, 7, 11), gone(4, 8, 12), bound(5, 1, 1<<32, 3), bound(6, 1, 9, 1<<40-15), bound(7, 1, 9, 1<<40-16))
	for _, n := range wrongChassis() {
		d.refuses(t, api.Call{Op: api.Start, Port: 0, Chassis: n}, api.ErrNone)
		d.refuses(t, api.Call{Op: api.Start, Port: 4, Chassis: n}, api.ErrNone)
		for _, port := range []int{1, 2, 3, 5, 6} {
			d.refuses(t, api.Call{Op: api.Start, Port: port, Chassis: n}, api.ErrArg)
		}
	}
	for n := range 16 {
		d.refuses(t, api.Call{Op: api.Start, Port: 2, Chassis: n}, api.ErrState)
		d.refuses(t, api.Call{Op: api.Start, Port: 3, Chassis: n}, api.ErrState)
		for _, port := range []int{5, 6} {
			if n == 1 {
				d.refuses(t, api.Call{Op: api.Start, Port: port, Chassis: n}, api.ErrSame)
			} else {
				d.refuses(t, api.Call{Op: api.Start, Port: port, Chassis: n}, api.ErrGen)
			}
		}
		if n > 3 {
			d.refuses(t, api.Call{Op: api.Start, Port: 1, Chassis: n}, api.ErrNone)
		}
	}
	d.refuses(t, api.Call{Op: api.Start, Port: 1, Chassis: 0}, api.ErrSame)
	d.becomes(t, api.Call{Op: api.Start, Port: 1, Chassis: 1}, moving(1, 0, 1, 5, 10))
	d.becomes(t, api.Call{Op: api.Start, Port: 7, Chassis: 3}, moving(7, 1, 3, 9, 1<<40-15))
}

// TestDoQuery: K1: Query tells the row of a port that is not gone, and notes nothing.
func TestDoQuery(t *testing.T) {
	d := each(t)
	was := d.look()
	for i, r := range d.Rows()[:3] {
		d.does(t, api.Call{Op: api.Query, Port: i + 1, Chassis: -5, MAC: math.MaxUint64}, r)
	}
	if got := d.look(); got != was {
		t.Errorf("%s; was %s", got, was)
	}
	for _, port := range append(wrongPorts(), 0, 4, 5, 31) {
		d.refuses(t, api.Call{Op: api.Query, Port: port}, api.ErrNone)
	}
}

// TestDoOthers: K1: any other op is ErrArg, whatever else it has.
func TestDoOthers(t *testing.T) {
	d := each(t)
	for _, op := range wrongOps() {
		for _, port := range []int{-1, 0, 1, 2, 3, 4, 32} {
			for _, n := range []int{-1, 0, 3, 9, 16} {
				d.refuses(t, api.Call{Op: op, Port: port, Chassis: n, MAC: 7}, api.ErrArg)
			}
		}
	}
}

// TestDoAtNow: K1: what is done is so at the time that is: that of the opening, or the last tick.
func TestDoAtNow(t *testing.T) {
	d := each(t)
	d.becomes(t, api.Call{Op: api.Start, Port: 1, Chassis: 3}, moving(1, 0, 3, 5, 10))
	for i, now := range []int{noon, noon + 1, noon + 9} {
		d.ticks(t, now)
		d.becomes(t, api.Call{Op: api.AddPort, Port: 20 + i, Chassis: 3, MAC: mac(20 + i)}, at(now, bound(20+i, 3, 1, 1)))
		d.becomes(t, api.Call{Op: api.RemovePort, Port: 20 + i}, at(now, gone(20+i, 1, 2)))
	}
	d.ticks(t, 1<<40)
	d.becomes(t, api.Call{Op: api.Start, Port: 1, Chassis: 2}, at(1<<40, moving(1, 0, 2, 5, 12)))
	d.becomes(t, api.Call{Op: api.Commit, Port: 1}, at(1<<40, moved(1, 2, 0, 6, 13)))
}

// TestDoFull: K1: a full journal's error, behind all others, and nothing is changed: neither rows, nor chassis, nor what goes.
func TestDoFull(t *testing.T) {
	rows := []api.Row{bound(1, 0, 5, 9), moving(2, 0, 1, 6, 10), moved(3, 2, 0, 7, 11), gone(4, 8, 12)}
	for _, x := range []struct {
		need  int
		calls []api.Call
	}{
		{rowRoom, []api.Call{{Op: api.AddPort, Port: 0, Chassis: 3, MAC: 7}, {Op: api.AddPort, Port: 4, Chassis: 3, MAC: 7}, {Op: api.RemovePort, Port: 1}, {Op: api.Start, Port: 1, Chassis: 2}, {Op: api.Commit, Port: 2}, {Op: api.Commit, Port: 3}, {Op: api.Abort, Port: 2}}},
		{chassisRoom, []api.Call{{Op: api.AddChassis, Chassis: 9}, {Op: api.RemoveChassis, Chassis: 3}}},
	} {
		for _, room := range []int{0, 1, x.need - 1, x.need} {
			for _, call := range x.calls {
				d := roomy(t, room, rows...)
				for n := range 3 {
					d.meets(t, n)
				}
				if room < x.need {
					d.refuses(t, call, api.ErrFull)
					for n := range 3 {
						if !d.Idle(n) {
							t.Errorf("%+v: something goes to %d", call, n)
						}
					}
					d.does(t, api.Call{Op: api.Query, Port: 1}, rows[0])
					d.refuses(t, api.Call{Op: api.AddChassis, Chassis: 1}, api.ErrTwice)
					d.refuses(t, api.Call{Op: api.Start, Port: 1, Chassis: 9}, api.ErrNone)
					d.refuses(t, api.Call{Op: api.Abort, Port: 3}, api.ErrState)
				} else if _, e := d.Do(call); e != api.OK {
					t.Errorf("%+v in room for %d: %d", call, room, e)
				} else if d.f.Safe() != len(d.f.Bytes()) || d.f.Add(0) != api.ErrFull {
					t.Errorf("%+v: %s", call, d.look())
				}
			}
		}
	}
}

// TestDoFullChassis: K1: of a chassis whose adding had no room the line is as it was: when it is there at last, it is behind; and one whose removal had none is still told.
func TestDoFullChassis(t *testing.T) {
	d := roomy(t, 0, bound(1, 0, 5, 9))
	h := d.meets(t, 1)
	if _, e := d.Do(api.Call{Op: api.RemoveChassis, Chassis: 1}); e != api.ErrFull {
		t.Fatal(e)
	}
	h.gives(t, h.next([]byte("x")))
	h.idle(t, true)
	if _, e := d.Do(api.Call{Op: api.AddChassis, Chassis: 9}); e != api.ErrFull || d.Idle(9) || len(d.Out(9)) != 0 {
		t.Errorf("%d, %v, %x", e, d.Idle(9), d.Out(9))
	}
}
