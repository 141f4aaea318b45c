package ctl_test

import (
	"math"
	"testing"

	"rutter/api"
	"rutter/session"
)

// step is a call, and the body of the record that it is noted by.
type step struct {
	call   api.Call
	record string
}

// steps are calls of each op on what each has, none of which has an error.
func steps() []step {
	return []step{
		{api.Call{Op: api.AddChassis, Chassis: 9}, ofAdded(9)}, {api.Call{Op: api.RemoveChassis, Chassis: 3}, ofRemoved(3)},
		{api.Call{Op: api.AddPort, Port: 0, Chassis: 3, MAC: 7}, ofRow(with(7, bound(0, 3, 1, 1)))}, {api.Call{Op: api.AddPort, Port: 4, Chassis: 3, MAC: 7}, ofRow(with(7, bound(4, 3, 9, 13)))},
		{api.Call{Op: api.RemovePort, Port: 1}, ofRow(gone(1, 5, 10))}, {api.Call{Op: api.Start, Port: 1, Chassis: 3}, ofRow(moving(1, 0, 3, 5, 10))},
		{api.Call{Op: api.Commit, Port: 2}, ofRow(moved(2, 1, 0, 7, 11))}, {api.Call{Op: api.Commit, Port: 3}, ofRow(bound(3, 2, 7, 12))}, {api.Call{Op: api.Abort, Port: 2}, ofRow(bound(2, 0, 6, 11))},
	}
}

// halted checks that a controller has stopped: each call's error, ahead of all others, and what it tells then.
func (d *desk) halted(t *testing.T) {
	t.Helper()
	was := d.look()
	for _, op := range append(wrongOps(), api.AddChassis, api.RemoveChassis, api.AddPort, api.RemovePort, api.Start, api.Commit, api.Abort, api.Query) {
		for _, n := range []int{-1, 1, 9, 16} {
			x := api.Call{Op: op, Port: n, Chassis: n, MAC: 1 << 48}
			if r, e := d.Do(x); r != (api.Row{}) || e != api.ErrHalt {
				t.Errorf("Do of %+v: %+v, %d", x, r, e)
			}
			if e := d.Half(x); e != api.ErrHalt {
				t.Errorf("Half of %+v: %d", x, e)
			}
		}
	}
	for _, now := range []int{math.MinInt, -1, 0, noon - 1, noon, noon + span, 1 << 40, 1<<40 + 1, math.MaxInt} {
		if e := d.Tick(now); e != api.ErrHalt {
			t.Errorf("Tick to %d: %d", now, e)
		}
	}
	for _, n := range append(wrongChassis(), 0, 1, 3, 9, 15) {
		for _, b := range [][]byte{nil, []byte("x"), letter(t, lone(3)), letter(t, lone(boot)), letter(t, session.Letter{Mine: boot, Peer: 1, Seq: 1, Body: []byte("x")})} {
			if m, e := d.Take(n, b); m.Kind != 0 || e != api.ErrHalt {
				t.Errorf("Take of %d, %x: %+v, %d", n, b, m, e)
			}
		}
		if len(d.Out(n)) != 0 || d.Idle(n) {
			t.Errorf("%d: %x, %v", n, d.Out(n), d.Idle(n))
		}
	}
	if got := d.look(); got != was {
		t.Errorf("%s; was %s", got, was)
	}
}

// TestHalf: K2: of each op: the record is in the file, not safe, and nothing else is done; it has stopped; rows, chassis and boot are as ahead of the call.
func TestHalf(t *testing.T) {
	for _, x := range steps() {
		d := each(t)
		for n := range 4 {
			d.meets(t, n)
		}
		rows, chassis, safe := d.Rows(), len(d.Chassis()), len(d.tail(t, 0))
		if e := d.Half(x.call); e != api.OK {
			t.Errorf("%+v: %d", x.call, e)
		}
		if got := string(d.f.Bytes()[safe:]); got != whole(x.record) || d.f.Safe() != safe {
			t.Errorf("%+v: put %x, of %d bytes %d safe; want %x", x.call, got, len(d.f.Bytes()), d.f.Safe(), whole(x.record))
		}
		d.has(t, rows...)
		if len(d.Chassis()) != chassis || d.Boot() != 1 {
			t.Errorf("%+v: %s", x.call, d.look())
		}
		d.halted(t)
	}
}

// TestHalfGoesOn: K2: a call with an error, or one by which nothing changes, halfway: it has not stopped, and goes on as ever.
func TestHalfGoesOn(t *testing.T) {
	d := each(t)
	h := d.meets(t, 1)
	was := d.look()
	for _, port := range []int{1, 2, 3} {
		if e := d.Half(api.Call{Op: api.Query, Port: port}); e != api.OK {
			t.Errorf("Query of %d: %d", port, e)
		}
	}
	for _, x := range []struct {
		call api.Call
		e    api.Errno
	}{
		{api.Call{Op: api.Query, Port: 4}, api.ErrNone}, {api.Call{Op: api.Query, Port: 5}, api.ErrNone}, {api.Call{Op: 8}, api.ErrArg}, {api.Call{Op: api.AddChassis, Chassis: 1}, api.ErrTwice},
		{api.Call{Op: api.AddChassis, Chassis: 16}, api.ErrArg}, {api.Call{Op: api.RemoveChassis, Chassis: 1}, api.ErrUsed}, {api.Call{Op: api.AddPort, Port: 1}, api.ErrTwice},
		{api.Call{Op: api.AddPort, Port: 0, Chassis: 9}, api.ErrNone}, {api.Call{Op: api.Start, Port: 1, Chassis: 0}, api.ErrSame}, {api.Call{Op: api.Abort, Port: 3}, api.ErrState},
	} {
		if e := d.Half(x.call); e != x.e {
			t.Errorf("%+v: %d; want %d", x.call, e, x.e)
		}
	}
	if got := d.look(); got != was {
		t.Errorf("%s; was %s", got, was)
	}
	d.becomes(t, api.Call{Op: api.Start, Port: 1, Chassis: 3}, moving(1, 0, 3, 5, 10))
	h.hears(t, aRow(moving(1, 0, 3, 5, 10)))
	d.ticks(t, noon+1)
	if e := d.Half(api.Call{Op: api.Abort, Port: 1}); e != api.OK {
		t.Error(e)
	}
	d.halted(t)
}

// TestHalfFull: K2: where the journal is full, it has not stopped.
func TestHalfFull(t *testing.T) {
	d := roomy(t, rowRoom-1, bound(1, 0, 5, 9))
	d.refuses(t, api.Call{Op: api.Start, Port: 1, Chassis: 3}, api.ErrFull)
	if e := d.Half(api.Call{Op: api.AddChassis, Chassis: 9}); e != api.OK {
		t.Error(e)
	}
	d.halted(t)
}

// TestHalfAtNow: K2: the record is that of the call at the time that is.
func TestHalfAtNow(t *testing.T) {
	d := each(t)
	d.ticks(t, noon+3)
	n := len(d.tail(t, 0))
	if e := d.Half(api.Call{Op: api.Commit, Port: 2}); e != api.OK {
		t.Fatal(e)
	}
	if got := string(d.f.Bytes()[n:]); got != whole(ofRow(at(noon+3, moved(2, 1, 0, 7, 11)))) {
		t.Errorf("%x", got)
	}
}
