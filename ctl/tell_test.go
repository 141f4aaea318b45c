package ctl_test

import (
	"testing"

	"rutter/api"
	"rutter/session"
)

// floods pushes so many messages to a host's line: rows of port 30, that is added and removed.
func (d *desk) floods(t *testing.T, n int) {
	t.Helper()
	for i := range n {
		op := api.AddPort
		if r := d.row(30); r.Ver > 0 && r.Phase != api.Gone {
			op = api.RemovePort
		}
		if _, e := d.Do(api.Call{Op: op, Port: 30, Chassis: 3, MAC: mac(30)}); e != api.OK {
			t.Fatalf("change %d: %d", i, e)
		}
	}
}

// TestTold: K1: what changed is told to each chassis whose line has a PEER, once, and to no other; what chassis come and go is told to nobody.
func TestTold(t *testing.T) {
	d := each(t)
	a, b := d.meets(t, 0), d.meets(t, 2)
	for _, x := range []struct {
		call api.Call
		want api.Row
	}{
		{api.Call{Op: api.Start, Port: 1, Chassis: 3}, moving(1, 0, 3, 5, 10)}, {api.Call{Op: api.Abort, Port: 2}, bound(2, 0, 6, 11)},
		{api.Call{Op: api.Commit, Port: 1}, moved(1, 3, 0, 6, 11)}, {api.Call{Op: api.Commit, Port: 1}, bound(1, 3, 6, 12)},
		{api.Call{Op: api.RemovePort, Port: 2}, gone(2, 6, 12)}, {api.Call{Op: api.AddPort, Port: 2, Chassis: 1, MAC: 9}, with(9, bound(2, 1, 7, 13))},
		{api.Call{Op: api.AddPort, Port: 0, Chassis: 0, MAC: 8}, with(8, bound(0, 0, 1, 1))},
	} {
		d.becomes(t, x.call, x.want)
		a.idle(t, false)
		a.hears(t, aRow(x.want))
		b.hears(t, aRow(x.want))
		a.idle(t, true)
	}
	d.does(t, api.Call{Op: api.Query, Port: 2}, with(9, bound(2, 1, 7, 13)))
	d.does(t, api.Call{Op: api.AddChassis, Chassis: 9}, api.Row{})
	d.does(t, api.Call{Op: api.RemoveChassis, Chassis: 9}, api.Row{})
	a.hears(t)
	b.hears(t)
	for _, n := range []int{1, 3} {
		if got := texts(d.Out(n)); len(got) != 1 || got[0] != string(letter(t, lone(1))) {
			t.Errorf("to %d goes %x", n, got)
		}
		d.meets(t, n).hears(t)
	}
}

// TestToldInOrder: K1: what changes goes in the order in which it did.
func TestToldInOrder(t *testing.T) {
	d := begun(t)
	h := d.meets(t, 2)
	var want []api.Message
	for i := range 20 {
		port := (i * 11) % 32
		r := bound(port, i%4, 1, 1)
		d.becomes(t, api.Call{Op: api.AddPort, Port: port, Chassis: i % 4, MAC: mac(port)}, r)
		want = append(want, aRow(r))
	}
	h.hears(t, want...)
}

// TestFullIsBehind: K1: a line whose queue is full is BEHIND: when it is empty, all rows are pushed, and it is no longer; a line beside it is not.
func TestFullIsBehind(t *testing.T) {
	d := each(t)
	h, other := d.meets(t, 1), d.meets(t, 2)
	d.floods(t, 64)
	for range 8 {
		other.got += len(other.queue(t))
		other.gives(t, session.Letter{})
	}
	other.idle(t, true)
	d.floods(t, 3)
	other.hears(t, aRow(bound(30, 3, 33, 65)), aRow(gone(30, 33, 66)), aRow(bound(30, 3, 34, 67)))
	var want []api.Message
	for i := range 32 {
		want = append(want, aRow(bound(30, 3, i+1, 2*i+1)), aRow(gone(30, i+1, 2*i+2)))
	}
	h.hears(t, append(want, allRows(d.Rows()...)...)...)
	h.idle(t, true)
	h.gives(t, h.next([]byte("x")))
	h.idle(t, true)
}

// TestJustFull: K1: a line whose queue has its last place taken isn't BEHIND yet.
func TestJustFull(t *testing.T) {
	d := begun(t)
	h := d.meets(t, 1)
	d.floods(t, 64)
	for range 8 {
		h.got += len(h.queue(t))
		h.gives(t, session.Letter{})
	}
	h.hears(t)
	h.idle(t, true)
}

// TestBehindIsTold: K1: a line that is BEHIND is told what changes, too, as far as there is room; all rows come when its queue is empty.
func TestBehindIsTold(t *testing.T) {
	d := begun(t, bound(1, 0, 5, 9))
	h := d.meets(t, 1)
	d.floods(t, 65)
	for range 7 {
		h.got += len(h.queue(t))
		h.gives(t, session.Letter{})
	}
	if got := h.queue(t); len(got) != 8 {
		t.Fatalf("%x", got)
	}
	late := moving(1, 0, 3, 5, 10)
	d.becomes(t, api.Call{Op: api.Start, Port: 1, Chassis: 3}, late)
	h.got += 8
	h.gives(t, session.Letter{})
	if got := h.queue(t); len(got) != 1 || got[0] != ofRow(late) {
		t.Fatalf("%x", got)
	}
	h.got++
	h.gives(t, session.Letter{})
	h.hears(t, allRows(late, bound(30, 3, 33, 65))...)
	h.idle(t, true)
}

// TestAddedIsBehind: K1: the line of a chassis that was added is BEHIND: a new one, till it is known, and one that was there, till its queue is empty.
func TestAddedIsBehind(t *testing.T) {
	d := each(t)
	d.does(t, api.Call{Op: api.AddChassis, Chassis: 9}, api.Row{})
	if d.Idle(9) || len(d.Out(9)) != 1 {
		t.Errorf("%v, %x", d.Idle(9), d.Out(9))
	}
	h := d.meets(t, 9)
	h.idle(t, true)
	d.does(t, api.Call{Op: api.Abort, Port: 2}, bound(2, 0, 6, 11))
	d.does(t, api.Call{Op: api.RemoveChassis, Chassis: 9}, api.Row{})
	if d.Idle(9) || len(d.Out(9)) != 0 {
		t.Errorf("one that went: %v, %x", d.Idle(9), d.Out(9))
	}
	d.does(t, api.Call{Op: api.Commit, Port: 3}, bound(3, 2, 7, 12))
	d.does(t, api.Call{Op: api.AddChassis, Chassis: 9}, api.Row{})
	h.idle(t, false)
	h.hears(t, append(allRows(bound(2, 0, 6, 11)), allRows(d.Rows()...)...)...)
	h.idle(t, true)
	d.does(t, api.Call{Op: api.RemoveChassis, Chassis: 9}, api.Row{})
	d.does(t, api.Call{Op: api.AddChassis, Chassis: 9}, api.Row{})
	h.idle(t, false)
	if got := h.queue(t); len(got) != 0 {
		t.Errorf("%x", got)
	}
	h.gives(t, session.Letter{})
	h.hears(t, allRows(d.Rows()...)...)
	h.idle(t, true)
}

// TestGoneIsNotTold: K1: a chassis that the store doesn't have any more is told nothing.
func TestGoneIsNotTold(t *testing.T) {
	d := begun(t, bound(1, 0, 5, 9))
	h := d.meets(t, 3)
	d.does(t, api.Call{Op: api.RemoveChassis, Chassis: 3}, api.Row{})
	d.does(t, api.Call{Op: api.Start, Port: 1, Chassis: 2}, moving(1, 0, 2, 5, 10))
	d.does(t, api.Call{Op: api.AddChassis, Chassis: 3}, api.Row{})
	if got := h.queue(t); len(got) != 0 {
		t.Errorf("%x", got)
	}
	h.gives(t, session.Letter{})
	h.hears(t, allRows(moving(1, 0, 2, 5, 10))...)
}

// TestAddedIsKept: K1: adding a chassis that is there is an error, by which its line isn't BEHIND.
func TestAddedIsKept(t *testing.T) {
	d := each(t)
	h := d.meets(t, 1)
	d.refuses(t, api.Call{Op: api.AddChassis, Chassis: 1}, api.ErrTwice)
	h.idle(t, true)
	h.gives(t, session.Letter{})
	h.hears(t)
}
