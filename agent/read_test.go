package agent_test

import (
	"math"
	"slices"
	"strconv"
	"testing"

	"rutter/api"
	"rutter/session"
)

// TestOut: P16.1: the bytes of the letters that go: of no body, of up to eight, and no more at once, in order, and the same when asked again.
func TestOut(t *testing.T) {
	for _, n := range []int{0, 1, 2, 7, 8, 9, 63, 64} {
		l := met(t, here)
		l.hears(t, noon, ofRow(bound(3, here, 1, 1)))
		want := [][]byte{letter(t, session.Letter{Mine: boot, Peer: far, Ack: 1})}
		for i := range n {
			text := []byte(strconv.Itoa(i))
			if e := l.Push(text); e != api.OK {
				t.Fatalf("Push %d: %d", i, e)
			}
			if i < 8 {
				want = append(want[:i], letter(t, session.Letter{Mine: boot, Peer: far, Ack: 1, Seq: i + 1, Body: text}))
			}
		}
		for range 3 {
			if got := l.Out(); !slices.EqualFunc(got, want, slices.Equal[[]byte]) {
				t.Fatalf("%d bodies: %x; want %x", n, got, want)
			}
			if l.Len() != n || l.Idle() != (n == 0) {
				t.Errorf("%d bodies: Len %d, Idle %v", n, l.Len(), l.Idle())
			}
		}
	}
}

// TestOutInOrder: P16.1: what goes next is behind what was acknowledged, to the last one.
func TestOutInOrder(t *testing.T) {
	l := met(t, here)
	for i := range 64 {
		l.Push([]byte{byte(i)})
	}
	for i, b := range l.bodies(t, noon) {
		if len(b) != 1 || int(b[0]) != i {
			t.Errorf("place %d: %x", i, b)
		}
	}
	if l.got != 64 || !l.Idle() {
		t.Errorf("%d came, Idle %v", l.got, l.Idle())
	}
}

// TestOutOfNobody: P16.1: a new one's letter has no PEER, and what is pushed ahead of that goes.
func TestOutOfNobody(t *testing.T) {
	a := made(t, here, boot, life)
	for range 2 {
		if got := a.Out(); len(got) != 1 || string(got[0]) != string(letter(t, session.Letter{Mine: boot})) {
			t.Errorf("%x", got)
		}
	}
	a.Push([]byte("a"))
	if got := a.Out(); len(got) != 1 || string(got[0]) != string(letter(t, session.Letter{Mine: boot, Seq: 1, Body: []byte("a")})) {
		t.Errorf("%x", got)
	}
}

// TestRows: P16.1: none, several that came in any order, and all, by ports, rising.
func TestRows(t *testing.T) {
	met(t, here).has(t)
	for _, order := range [][]int{{0}, {31}, {7, 3}, {3, 7}, {31, 0, 16}, {2, 1, 0, 31, 30}, {5, 4, 3, 2, 1, 0}} {
		l := met(t, here)
		var want []api.Row
		for _, port := range order {
			r := bound(port, port%16, 1+port, 1)
			l.hears(t, noon, ofRow(r))
			want = append(want, r)
			slices.SortFunc(want, func(a, b api.Row) int { return a.Port - b.Port })
			l.has(t, want...)
			l.has(t, want...)
		}
	}
}

// TestRowsAll: P16.1: of all 32 ports, in whichever order they came, each of which is changed then.
func TestRowsAll(t *testing.T) {
	for _, step := range []int{1, 3, 7, 31} {
		l := met(t, here)
		want := make([]api.Row, 32)
		for i := range 32 {
			port := i * step % 32
			want[port] = moved(port, port%4, 7, 2, 3)
			l.hears(t, noon, ofRow(want[port]))
		}
		l.has(t, want...)
		for i := range 32 {
			port := 31 - i*step%32
			want[port] = gone(port, 2, 5)
			l.hears(t, noon, ofRow(want[port]))
			l.has(t, want...)
		}
	}
}

// TestRecords: P16.1: those that live at a time, whichever that is: before, at and behind the end of a life; asking changes nothing.
func TestRecords(t *testing.T) {
	l := met(t, here, bound(3, here, 1, 1))
	l.tracks(t, 0)
	for i, now := range []int{0, 4, 9} {
		f := talks(t, mac(3), nth(i))
		l.guest(t, f, now, 1, delivered(t, 3, 1, 1, f))
	}
	a, b, c := until(10, nth(0)), until(14, nth(1)), until(19, nth(2))
	for range 2 {
		for _, x := range []struct {
			now  int
			want []api.Record
		}{
			{math.MinInt, []api.Record{a, b, c}}, {-1, []api.Record{a, b, c}}, {0, []api.Record{a, b, c}}, {9, []api.Record{a, b, c}},
			{10, []api.Record{b, c}}, {13, []api.Record{b, c}}, {14, []api.Record{c}}, {18, []api.Record{c}},
			{19, nil}, {20, nil}, {1 << 40, nil}, {math.MaxInt, nil},
		} {
			l.tracks(t, x.now, x.want...)
		}
	}
}

// TestIdle: P16.1: a new one isn't; one that knows the other's boot is, as long as nothing is to be told.
func TestIdle(t *testing.T) {
	a := made(t, here, boot, life)
	if a.Idle() {
		t.Errorf("a new one")
	}
	a.Push([]byte("a"))
	if a.Idle() {
		t.Errorf("a new one, of which something goes")
	}
	for i, peer := range []int{0, boot - 1, boot} {
		if e := a.Take(letter(t, session.Letter{Mine: far + i, Peer: peer}), noon); e != api.OK || !a.Idle() {
			t.Errorf("a letter to %d: %d, Idle %v", peer, e, a.Idle())
		}
	}
	l := met(t, here)
	if !l.Idle() {
		t.Errorf("one that knows it")
	}
	l.hears(t, noon, ofRow(bound(3, here, 1, 1)))
	if !l.Idle() {
		t.Errorf("one that has a row of which nothing is to be told")
	}
	l.hears(t, noon, ofRow(moved(3, 4, here, 2, 3)))
	if l.Idle() {
		t.Errorf("one that has something to tell")
	}
	l.tells(t, noon, ofFlows(3, 3))
	if !l.Idle() {
		t.Errorf("one that told it")
	}
	l.anew(t, noon)
	if l.Idle() {
		t.Errorf("one that has it to tell again")
	}
}
