package ctl_test

import (
	"math"
	"testing"

	"rutter/api"
)

// TestTick: K2: a time below NOW, or above 2^40, is refused, and nothing is changed; one at NOW, or above it, is.
func TestTick(t *testing.T) {
	d := each(t)
	for _, now := range []int{noon, noon + 1, noon + 1, noon + 9} {
		was := d.look()
		d.ticks(t, now)
		for _, wrong := range []int{math.MinInt, -1 << 40, -1, 0, 1, now - 2, now - 1, 1<<40 + 1, 1 << 41, math.MaxInt} {
			if e := d.Tick(wrong); e != api.ErrArg {
				t.Errorf("Tick to %d behind %d: %d", wrong, now, e)
			}
		}
		if got := d.look(); got != was {
			t.Errorf("%s; was %s", got, was)
		}
	}
	d.ticks(t, 1<<40)
	d.ticks(t, 1<<40)
	for _, wrong := range []int{1<<40 - 1, 1<<40 + 1, 0, -1} {
		if e := d.Tick(wrong); e != api.ErrArg {
			t.Errorf("Tick to %d: %d", wrong, e)
		}
	}
	d.becomes(t, api.Call{Op: api.RemovePort, Port: 1}, at(1<<40, gone(1, 5, 10)))
}

// TestTickFromNothing: K2: NOW of the opening may be 0, or 2^40.
func TestTickFromNothing(t *testing.T) {
	for _, now := range []int{0, 1 << 40} {
		c := opened(t, file(t, much, ""), now)
		for _, wrong := range []int{-1, now - 1, 1<<40 + 1} {
			if e := c.Tick(wrong); e != api.ErrArg {
				t.Errorf("Tick to %d behind %d: %d", wrong, now, e)
			}
		}
		for _, right := range []int{now, 1 << 40, 1 << 40} {
			if e := c.Tick(right); e != api.OK {
				t.Errorf("Tick to %d behind %d: %d", right, now, e)
			}
		}
	}
}

// TestTickLate: K2: rows that are late become so, by ports, rising: noted, and told; one that isn't yet stays.
func TestTickLate(t *testing.T) {
	rows := []api.Row{moving(0, 3, 1, 2, 3), moving(2, 0, 1, 6, 10), at(noon-1, moved(3, 2, 0, 7, 11)), at(noon-1, bound(9, 0, 1, 1)), at(noon-1, gone(12, 1, 1)), at(noon+1, moving(31, 1, 2, 1<<32-1, 1<<40-15))}
	d := begun(t, rows...)
	h := d.meets(t, 1)
	for _, x := range []struct {
		now  int
		late []api.Row
	}{
		{noon, nil}, {noon + span - 2, nil}, {noon + span - 1, []api.Row{bound(3, 2, 7, 12)}}, {noon + span - 1, nil},
		{noon + span, []api.Row{bound(0, 3, 2, 4), bound(2, 0, 6, 11)}}, {noon + span + 1, []api.Row{bound(31, 1, 1<<32-1, 1<<40-14)}}, {1 << 40, nil},
	} {
		n, want := len(d.tail(t, 0)), d.Rows()
		var records []string
		var messages []api.Message
		for _, r := range x.late {
			r.Since = x.now
			for i := range want {
				if want[i].Port == r.Port {
					want[i] = r
				}
			}
			records, messages = append(records, ofRow(r)), append(messages, aRow(r))
		}
		d.ticks(t, x.now)
		d.has(t, want...)
		if got := d.tail(t, n); got != whole(records...) {
			t.Errorf("at %d: noted %x; want %x", x.now, got, whole(records...))
		}
		h.hears(t, messages...)
	}
}

// TestTickFull: K2: where the journal is full on the way, a row stays, isn't told, and the tick is done all the same; as soon as there is room, it is late still.
func TestTickFull(t *testing.T) {
	rows := []api.Row{moving(2, 0, 1, 6, 10), moved(3, 2, 0, 7, 11), moving(5, 1, 2, 1, 1)}
	late := []api.Row{at(200, bound(2, 0, 6, 11)), at(200, bound(3, 2, 7, 12)), at(200, bound(5, 1, 1, 2))}
	for room := range 3*rowRoom + 2 {
		d := roomy(t, room, rows...)
		h := d.meets(t, 3)
		d.ticks(t, 200)
		done := room / rowRoom
		d.has(t, append(append([]api.Row{}, late[:done]...), rows[done:]...)...)
		h.hears(t, allRows(late[:done]...)...)
		if e := d.Tick(199); e != api.ErrArg {
			t.Errorf("room for %d: %d; NOW is 200", room, e)
		}
		d.ticks(t, 200)
		h.hears(t)
		if done == 3 {
			continue
		}
		if e := d.f.Cut(0); e != api.OK { // now there is room for all
			t.Fatal(e)
		}
		d.ticks(t, 200)
		d.has(t, late...)
		h.hears(t, allRows(late[done:]...)...)
	}
}

// TestTickBehind: K2: what became so is told as ever: a line whose queue is full is BEHIND then.
func TestTickBehind(t *testing.T) {
	d := begun(t, moving(2, 0, 1, 6, 10))
	h := d.meets(t, 1)
	d.floods(t, 64)
	d.ticks(t, noon+span)
	for range 8 {
		h.got += len(h.queue(t))
		h.gives(t, h.next([]byte("x")))
	}
	h.hears(t, allRows(d.Rows()...)...)
	h.idle(t, true)
}
