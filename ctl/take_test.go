package ctl_test

import (
	"bytes"
	"testing"

	"rutter/api"
	"rutter/control"
	"rutter/session"
)

// takes checks what Take answers, of which what was handed out is no message.
func (d *desk) takes(t testing.TB, chassis int, b []byte, want api.Errno) {
	t.Helper()
	if m, e := d.Take(chassis, b); !control.Same(m, api.Message{}) || e != want {
		t.Errorf("Take of %d, %x: %+v, %d; want %d", chassis, b, m, e, want)
	}
}

// TestTakeWrong: K2: Take's errors in their order: a chassis that there can't be, one that the store doesn't have, bytes that are no letter's, a boot that is over; with each, nothing is changed.
func TestTakeWrong(t *testing.T) {
	d := each(t)
	h := d.meets(t, 1)
	was := d.look()
	right, stale := letter(t, h.fills(session.Letter{Seq: 1, Body: body(t, anAwake(2, 10))})), letter(t, session.Letter{Mine: boot - 1, Peer: 1, Seq: 1, Body: body(t, anAwake(2, 10))})
	none := [][]byte{nil, {}, []byte("x"), right[:len(right)-1], append(bytes.Clone(right), 0), make([]byte, 24), make([]byte, 2000)}
	for _, b := range append(none, right, stale) {
		for _, n := range wrongChassis() {
			d.takes(t, n, b, api.ErrArg)
		}
		for n := 4; n < 16; n++ {
			d.takes(t, n, b, api.ErrNone)
		}
	}
	for _, b := range none {
		for n := range 4 {
			d.takes(t, n, b, api.ErrForm)
		}
	}
	d.takes(t, 1, stale, api.ErrStale)
	d.takes(t, 1, letter(t, lone(1)), api.ErrStale)
	if got := d.look(); got != was {
		t.Errorf("%s; was %s", got, was)
	}
	h.says(t, anAwake(2, 10))
	h.hears(t, aRow(moved(2, 1, 0, 7, 11)))
}

// TestTakeEdges: K2: the least and the greatest chassis.
func TestTakeEdges(t *testing.T) {
	f := file(t, much, whole(ofAdded(0), ofAdded(15)))
	d := &desk{opened(t, f, noon), f}
	for _, n := range []int{0, 15} {
		d.meets(t, n).idle(t, true)
	}
}

// TestMeets: K2: of a line that knows nobody a letter of any boot resets it, whatever PEER it has: all rows are pushed, by ports, rising; only one to this boot is handed out.
func TestMeets(t *testing.T) {
	for _, mine := range []int{1, boot, 1 << 32} {
		for _, peer := range []int{0, 2, 1 << 32} {
			d := each(t)
			h := &host{d, 3, mine, 0, 0}
			d.takes(t, 3, letter(t, session.Letter{Mine: mine, Peer: peer, Ack: 3, Seq: 1, Body: body(t, anAwake(2, 10))}), api.OK)
			h.idle(t, false)
			h.hears(t, allRows(d.Rows()...)...)
			h.idle(t, true)
			d.has(t, each(t).Rows()...)
		}
	}
	d := each(t)
	h := &host{d, 1, boot, 0, 0}
	h.says(t, anAwake(2, 10))
	h.hears(t, append(allRows(each(t).Rows()...), aRow(moved(2, 1, 0, 7, 11)))...)
	h.idle(t, true)
}

// TestMeetsAll: K2: behind a reset all 32 rows are pushed, those that are gone, too, in order; of none nothing is.
func TestMeetsAll(t *testing.T) {
	var rows []api.Row
	for i := range 32 {
		rows = append(rows, bound(i, i%4, 1+i, 1+i))
		if i%3 == 0 {
			rows[i] = gone(i, 1+i, 1+i)
		}
	}
	d := begun(t, rows...)
	for n := range 4 {
		d.meets(t, n).idle(t, true)
	}
	d = begun(t)
	h := &host{d, 2, boot, 0, 0}
	h.gives(t, session.Letter{})
	h.idle(t, true)
	h.hears(t)
}

// TestBoots: K2: a letter of a boot above the one that is known resets the line: its queue is empty, its numbers begin anew, and all rows are pushed; one of a boot below is ErrStale.
func TestBoots(t *testing.T) {
	d := each(t)
	h := d.meets(t, 1)
	h.says(t, anAwake(9, 9))
	d.floods(t, 40)
	if len(h.queue(t)) != 8 {
		t.Fatalf("%x", h.queue(t))
	}
	g := h.anew()
	old := letter(t, h.fills(session.Letter{Seq: 2, Body: body(t, anAwake(2, 10))}))
	g.gives(t, session.Letter{})
	g.hears(t, allRows(d.Rows()...)...)
	d.takes(t, 1, old, api.ErrStale)
	g.idle(t, true)
	g.says(t, anAwake(2, 10))
	g.hears(t, aRow(moved(2, 1, 0, 7, 11)))
	k := g.anew()
	k.gives(t, k.next(body(t, anAwake(9, 9))))
	k.hears(t, allRows(d.Rows()...)...)
	k.idle(t, true)
}

// TestResetWhileBehind: K2: a line that is BEHIND with a full queue, and is reset, gets all rows at once.
func TestResetWhileBehind(t *testing.T) {
	d := each(t)
	h := d.meets(t, 1)
	d.floods(t, 66)
	h.idle(t, false)
	g := h.anew()
	g.gives(t, session.Letter{})
	g.hears(t, allRows(d.Rows()...)...)
	g.idle(t, true)
}

// TestBehindWaits: K2: all rows are not pushed while the queue isn't empty, also where a letter hands something out; with the one that empties it they are, ahead of what that one changes.
func TestBehindWaits(t *testing.T) {
	d := each(t)
	h := d.meets(t, 1)
	d.floods(t, 65)
	for i := range 7 {
		h.got += 8
		h.says(t, anAwake(9, 1+i))
		if len(h.queue(t)) != 8 {
			t.Fatalf("%x", h.queue(t))
		}
	}
	h.got += 7
	h.says(t, anAwake(9, 8))
	if got := h.queue(t); len(got) != 1 {
		t.Fatalf("%x", got)
	}
	rows := d.Rows()
	h.got++
	h.says(t, anAwake(2, 10))
	h.hears(t, append(allRows(rows...), aRow(moved(2, 1, 0, 7, 11)))...)
	h.idle(t, true)
}

// TestBodies: K2: the message that was handed out is answered, once, and in order; of another boot, of a number that was, or is too far, and of what is no message, 0.
func TestBodies(t *testing.T) {
	d := each(t)
	h := d.meets(t, 3)
	m, other := anAwake(9, 4), aTracked(9, 5, flows(16)...)
	first, second, third := h.next(body(t, m)), h.next(body(t, other)), h.next([]byte("no message"))
	d.takes(t, 3, letter(t, h.fills(second)), api.OK)
	d.takes(t, 3, letter(t, h.fills(third)), api.OK)
	for _, peer := range []int{0, 2} {
		l := h.fills(first)
		l.Peer = peer
		d.takes(t, 3, letter(t, l), api.OK)
	}
	d.takes(t, 3, letter(t, h.fills(session.Letter{})), api.OK)
	if got := h.gives(t, first); !control.Same(got, m) {
		t.Errorf("%+v; want %+v", got, m)
	}
	d.takes(t, 3, letter(t, h.fills(first)), api.OK)
	if got := h.gives(t, second); !control.Same(got, other) {
		t.Errorf("%+v; want %+v", got, other)
	}
	d.takes(t, 3, letter(t, h.fills(third)), api.OK)
	for _, b := range [][]byte{{0}, {2}, body(t, m)[:7], append(body(t, m), 0), []byte(ofAdded(9)), []byte(ofBoot(9)), []byte(ofRemoved(0)), make([]byte, 1000), body(t, anAwake(2, 10))[1:]} {
		d.takes(t, 3, letter(t, h.fills(h.next(b))), api.OK)
	}
	d.has(t, each(t).Rows()...)
	h.hears(t)
	h.says(t, m)
}

// TestKindRow: K2: a message of Kind 1 is answered, and does nothing, whatever row it has.
func TestKindRow(t *testing.T) {
	d := each(t)
	h, other := d.meets(t, 1), d.meets(t, 0)
	n := len(d.tail(t, 0))
	for _, r := range []api.Row{bound(0, 1, 1, 1), bound(1, 1, 6, 10), moved(2, 1, 0, 7, 11), gone(3, 7, 12), bound(4, 1, 9, 13), moving(2, 0, 1, 6, 10), bound(31, 9, 1, 1)} {
		h.says(t, aRow(r))
	}
	d.has(t, each(t).Rows()...)
	h.hears(t)
	other.hears(t)
	if got := d.tail(t, n); got != "" {
		t.Errorf("noted %x", got)
	}
}

// TestAwake: K2: a row that is moving to the chassis, in that version, has moved: that is noted, told to all who are known, and the message is answered.
func TestAwake(t *testing.T) {
	d := each(t)
	a, b := d.meets(t, 0), d.meets(t, 1)
	n := len(d.tail(t, 0))
	d.ticks(t, noon+4)
	b.says(t, anAwake(2, 10))
	want := at(noon+4, moved(2, 1, 0, 7, 11))
	if d.row(2) != want || d.tail(t, n) != whole(ofRow(want)) {
		t.Errorf("%s", d.look())
	}
	a.hears(t, aRow(want))
	b.hears(t, aRow(want))
	b.says(t, anAwake(2, 10))
	b.says(t, anAwake(2, 11))
	if d.row(2) != want || d.tail(t, n) != whole(ofRow(want)) {
		t.Errorf("%s", d.look())
	}
	a.hears(t)
}

// TestAwakeNot: K2: of a port without a row, of another chassis, of another version, and of a row that isn't moving: the message is answered, and nothing is done.
func TestAwakeNot(t *testing.T) {
	d := each(t)
	hosts := []*host{d.meets(t, 0), d.meets(t, 1), d.meets(t, 2), d.meets(t, 3)}
	n := len(d.tail(t, 0))
	for _, x := range []struct{ chassis, port, ver int }{
		{1, 0, 10}, {1, 31, 1}, {0, 2, 10}, {2, 2, 10}, {3, 2, 10}, {1, 2, 9}, {1, 2, 11}, {1, 2, 1}, {1, 2, 1 << 40},
		{0, 1, 9}, {1, 1, 9}, {2, 3, 11}, {0, 3, 11}, {1, 4, 12}, {0, 4, 12},
	} {
		hosts[x.chassis].says(t, anAwake(x.port, x.ver))
	}
	d.has(t, each(t).Rows()...)
	if got := d.tail(t, n); got != "" {
		t.Errorf("noted %x", got)
	}
	for _, h := range hosts {
		h.hears(t)
		h.idle(t, true)
	}
}

// TestAwakeFull: K2: where the journal is full, the row stays, nothing is told, and the message is answered all the same.
func TestAwakeFull(t *testing.T) {
	for _, room := range []int{0, rowRoom - 1, rowRoom} {
		d := roomy(t, room, moving(2, 0, 1, 6, 10))
		a, b := d.meets(t, 0), d.meets(t, 1)
		b.says(t, anAwake(2, 10))
		if room < rowRoom {
			d.has(t, moving(2, 0, 1, 6, 10))
			a.hears(t)
			b.hears(t)
			continue
		}
		d.has(t, moved(2, 1, 0, 7, 11))
		a.hears(t, aRow(moved(2, 1, 0, 7, 11)))
	}
}

// TestAwakeLate: K2: a row that became late is awake no more.
func TestAwakeLate(t *testing.T) {
	d := each(t)
	h := d.meets(t, 1)
	d.ticks(t, noon+span)
	h.says(t, anAwake(2, 10))
	h.says(t, anAwake(2, 11))
	if got := d.row(2); got != at(noon+span, bound(2, 0, 6, 11)) {
		t.Errorf("%+v", got)
	}
}

// TestTracked: K2: what is tracked goes on to the Owner of the port's row, as it came, whatever phase that has, and to nobody else.
func TestTracked(t *testing.T) {
	for port, owner := range []int{1: 0, 2: 0, 3: 2} {
		if port == 0 {
			continue
		}
		for n := range 4 {
			for _, m := range []api.Message{aTracked(port, 11), aTracked(port, 1, flows(1)...), aTracked(port, 1<<40, flows(16)...)} {
				d := each(t)
				hosts := []*host{d.meets(t, 0), d.meets(t, 1), d.meets(t, 2), d.meets(t, 3)}
				rows := d.Rows()
				hosts[n].says(t, m)
				for i, h := range hosts {
					if i == owner && i != n {
						h.hears(t, m)
					} else {
						h.hears(t)
					}
					h.idle(t, true)
				}
				d.has(t, rows...)
			}
		}
	}
}

// TestTrackedNot: K2: of a port without a row, or of one that is gone, and where the Owner's line has no PEER, it goes nowhere.
func TestTrackedNot(t *testing.T) {
	d := each(t)
	a, b := d.meets(t, 0), d.meets(t, 1)
	for _, port := range []int{0, 4, 5, 31, 3} {
		b.says(t, aTracked(port, 11, flows(2)...))
	}
	a.hears(t)
	b.hears(t)
	if got := texts(d.Out(2)); len(got) != 1 || got[0] != string(letter(t, lone(1))) || d.Idle(2) {
		t.Errorf("to 2 goes %x", got)
	}
	d.meets(t, 2).idle(t, true)
}

// TestTrackedFull: K2: where the Owner's queue is full, that is all: it isn't BEHIND by that.
func TestTrackedFull(t *testing.T) {
	for _, n := range []int{63, 64} {
		d := each(t)
		a, b := d.meets(t, 0), d.meets(t, 1)
		d.floods(t, n)
		b.says(t, aTracked(1, 4, flows(3)...))
		for range 8 {
			if len(a.queue(t)) != 8 {
				t.Fatalf("%x", a.queue(t))
			}
			if last := a.queue(t)[7]; a.got == 56 && (last == string(body(t, aTracked(1, 4, flows(3)...)))) != (n == 63) {
				t.Errorf("behind %d: %x", n, last)
			}
			a.got += 8
			a.gives(t, session.Letter{})
		}
		a.hears(t)
		a.idle(t, true)
	}
}

// TestTrackedAtReset: K2: with the letter that resets a line a body may come: it goes on, behind what the line gets.
func TestTrackedAtReset(t *testing.T) {
	d := each(t)
	a := d.meets(t, 2)
	h := &host{d, 0, boot, 0, 0}
	h.says(t, aTracked(3, 11, flows(2)...))
	a.hears(t, aTracked(3, 11, flows(2)...))
	h.hears(t, allRows(d.Rows()...)...)
}
