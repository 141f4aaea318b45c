package ctl_test

import (
	"math"
	"slices"
	"testing"

	"rutter/api"
	"rutter/ctl"
	"rutter/session"
)

// TestOut: K2: the bytes of the letters that go: of no body, of up to eight, and no more at once, in order, and the same when asked again.
func TestOut(t *testing.T) {
	for _, n := range []int{0, 1, 2, 7, 8, 9, 63, 64} {
		d := begun(t)
		h := d.meets(t, 2)
		h.says(t, anAwake(1, 1))
		want := []string{string(letter(t, session.Letter{Mine: 1, Peer: boot, Ack: 1}))}
		for i := range n {
			d.floods(t, 1)
			if i < 8 {
				l := session.Letter{Mine: 1, Peer: boot, Ack: 1, Seq: i + 1, Body: []byte(ofRow(d.row(30)))}
				want = append(want[:i], string(letter(t, l)))
			}
		}
		for range 3 {
			if got := texts(d.Out(2)); !slices.Equal(got, want) {
				t.Fatalf("%d bodies: %x; want %x", n, got, want)
			}
			h.idle(t, n == 0)
		}
		if got := len(d.Out(1)); got != 1 {
			t.Errorf("to 1 go %d", got)
		}
	}
}

// TestOutOfNobody: K2: to a chassis that isn't there nothing goes, whichever that is; to one that isn't known a letter without a body.
func TestOutOfNobody(t *testing.T) {
	d := each(t)
	for _, n := range append(wrongChassis(), 4, 9, 15) {
		if got := d.Out(n); len(got) != 0 {
			t.Errorf("to %d goes %x", n, got)
		}
	}
	for n := range 4 {
		if got := texts(d.Out(n)); len(got) != 1 || got[0] != string(letter(t, lone(1))) {
			t.Errorf("to %d goes %x", n, got)
		}
	}
}

// TestIdle: K2: the store has the chassis, and its line a PEER, an empty queue, and isn't BEHIND.
func TestIdle(t *testing.T) {
	d := each(t)
	for _, n := range append(wrongChassis(), 0, 1, 2, 3, 4, 9, 15) {
		if d.Idle(n) {
			t.Errorf("of a new line, or none, %d", n)
		}
	}
	h := d.meets(t, 3)
	h.idle(t, true)
	for n := range 3 {
		if d.Idle(n) {
			t.Errorf("of another line, %d", n)
		}
	}
	d.floods(t, 1)
	h.idle(t, false)
	h.hears(t, aRow(bound(30, 3, 1, 1)))
	h.idle(t, true)
	d.does(t, api.Call{Op: api.RemovePort, Port: 30}, gone(30, 1, 2))
	h.hears(t, aRow(gone(30, 1, 2)))
	d.does(t, api.Call{Op: api.RemoveChassis, Chassis: 3}, api.Row{})
	h.idle(t, false)
	d.does(t, api.Call{Op: api.AddChassis, Chassis: 3}, api.Row{})
	h.idle(t, false)
	h.gives(t, session.Letter{})
	h.idle(t, false)
	h.hears(t, allRows(d.Rows()...)...)
	h.idle(t, true)
}

// TestIdleEmptyButBehind: K2: with an empty queue, and nothing that could go, a line that is BEHIND isn't idle.
func TestIdleEmptyButBehind(t *testing.T) {
	d := begun(t)
	h := d.meets(t, 3)
	d.does(t, api.Call{Op: api.RemoveChassis, Chassis: 3}, api.Row{})
	d.does(t, api.Call{Op: api.AddChassis, Chassis: 3}, api.Row{})
	if len(h.queue(t)) != 0 {
		t.Fatalf("%x", h.queue(t))
	}
	h.idle(t, false)
	h.gives(t, session.Letter{})
	h.idle(t, true)
}

// TestRead: K2: the store's rows, by ports, rising, and chassis, rising; the boot; the same when asked again.
func TestRead(t *testing.T) {
	f := file(t, much, whole(ofBoot(41)))
	d := &desk{opened(t, f, noon), f}
	for _, n := range []int{9, 2, 15, 0} {
		d.does(t, api.Call{Op: api.AddChassis, Chassis: n}, api.Row{})
	}
	for _, port := range []int{31, 4, 0, 17} {
		d.does(t, api.Call{Op: api.AddPort, Port: port, Chassis: 9, MAC: mac(port)}, bound(port, 9, 1, 1))
	}
	d.does(t, api.Call{Op: api.RemovePort, Port: 17}, gone(17, 1, 2))
	for range 2 {
		d.has(t, bound(0, 9, 1, 1), bound(4, 9, 1, 1), gone(17, 1, 2), bound(31, 9, 1, 1))
		if got := d.Chassis(); !slices.Equal(got, []int{0, 2, 9, 15}) || d.Boot() != 42 {
			t.Errorf("%d, %d", got, d.Boot())
		}
	}
}

// TestNil: K2: a nil controller answers ErrArg, and nothing, false, 0, at all arguments.
func TestNil(t *testing.T) {
	var c *ctl.Ctl
	for _, op := range append(wrongOps(), api.AddChassis, api.RemoveChassis, api.AddPort, api.RemovePort, api.Start, api.Commit, api.Abort, api.Query) {
		for _, n := range []int{-1, 0, 16} {
			x := api.Call{Op: op, Port: n, Chassis: n}
			if r, e := c.Do(x); r != (api.Row{}) || e != api.ErrArg {
				t.Errorf("Do of %+v: %+v, %d", x, r, e)
			}
			if e := c.Half(x); e != api.ErrArg {
				t.Errorf("Half of %+v: %d", x, e)
			}
		}
	}
	for _, n := range []int{math.MinInt, -1, 0, 3, 15, 16, 1 << 40, math.MaxInt} {
		if e := c.Tick(n); e != api.ErrArg {
			t.Errorf("Tick to %d: %d", n, e)
		}
		for _, b := range [][]byte{nil, []byte("x"), letter(t, lone(1))} {
			if m, e := c.Take(n, b); m.Kind != 0 || e != api.ErrArg {
				t.Errorf("Take of %d: %+v, %d", n, m, e)
			}
		}
		if len(c.Out(n)) != 0 || c.Idle(n) {
			t.Errorf("%d: %x, %v", n, c.Out(n), c.Idle(n))
		}
	}
	if len(c.Rows())+len(c.Chassis())+c.Boot() != 0 {
		t.Errorf("%+v, %d, %d", c.Rows(), c.Chassis(), c.Boot())
	}
}
