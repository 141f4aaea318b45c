package agent_test

import (
	"slices"
	"testing"

	"rutter/api"
	"rutter/dpath"
	"rutter/session"
)

// fills pushes as many bodies as leave room for so many in the queue.
func (l *line) fills(t *testing.T, room int) {
	t.Helper()
	for l.Len() < 64-room {
		if e := l.Push([]byte("full")); e != api.OK {
			t.Fatalf("Push: %d", e)
		}
	}
}

// acknowledges lets the agent's first bodies go, so many more.
func (l *line) acknowledges(t *testing.T, n, now int) {
	t.Helper()
	l.got += n
	l.gets(t, now, session.Letter{})
}

// messages are those bodies in the queue that are messages; all go.
func (l *line) messages(t *testing.T, now int) []string {
	t.Helper()
	var all []string
	for _, b := range l.bodies(t, now) {
		if string(b) != "full" {
			all = append(all, string(b))
		}
	}
	return all
}

// texts are messages' bytes.
func texts(t *testing.T, l ...api.Message) []string {
	t.Helper()
	var all []string
	for _, m := range l {
		all = append(all, string(body(t, m)))
	}
	return all
}

// TestWaitTold: P16.1: what waits is told once, at its version, however often it announces itself, and whatever comes.
func TestWaitTold(t *testing.T) {
	for _, port := range []int{0, 3, 31} {
		for _, chassis := range []int{0, here, 15} {
			l := met(t, chassis, moving(port, 4, chassis, 6, 7))
			l.tells(t, noon)
			l.announces(t, noon, rarp(t, mac(port)))
			l.announces(t, noon, rarp(t, mac(port)))
			l.tells(t, noon, ofAwake(port, 7))
			l.announces(t, noon, rarp(t, mac(port)))
			l.hears(t, noon, ofRow(moving(port, 4, chassis, 6, 7)))
			l.hears(t, noon, ofRow(bound(port, 4, 6, 6)))
			l.hears(t, noon, ofRow(bound((port+1)%32, 4, 6, 6)))
			l.tells(t, noon)
		}
	}
}

// TestWaitStays: P16.1: a wait whose row goes on moving is told again behind a reset; it was not let go by what came between.
func TestWaitStays(t *testing.T) {
	l := met(t, here, moving(3, 4, here, 6, 7))
	l.announces(t, noon, rarp(t, mac(3)))
	for range 3 {
		l.tells(t, noon, ofAwake(3, 7))
		l.hears(t, noon, ofRow(moving(3, 4, here, 6, 7)))
		l.hears(t, noon, ofRow(moving(3, 4, here, 9, 6)))
		l.hears(t, noon, ofRow(moving(4, 4, here, 6, 8)))
		l.hears(t, noon, ofAwake(3, 7))
		l.hears(t, noon, ofFlows(3, 7))
		l.tells(t, noon)
		l.anew(t, noon)
	}
}

// TestWaitGoes: P16.1: a wait goes, if its row is bound, moves to another chassis, has moved, is gone, or has another version, though it is moving here again: then it is not told, behind a reset neither, until it announces itself.
func TestWaitGoes(t *testing.T) {
	for _, r := range []api.Row{
		bound(3, 4, 6, 8), bound(3, here, 6, 8), moving(3, 4, 7, 6, 8), moving(3, here, 4, 6, 8), moving(3, 4, here, 6, 8), moving(3, 7, here, 6, 8),
		moved(3, here, 4, 7, 8), moved(3, 7, 4, 6, 8), gone(3, 6, 8),
	} {
		for _, ahead := range []bool{false, true} {
			l := met(t, here, moving(3, 4, here, 6, 7))
			l.announces(t, noon, rarp(t, mac(3)))
			want := []api.Message{ofAwake(3, 7)}
			if ahead {
				l.tells(t, noon, want...)
				want = nil
			}
			l.hears(t, noon, ofRow(r))
			l.tells(t, noon, want...)
			l.anew(t, noon)
			l.tells(t, noon)
			l.hears(t, noon, ofRow(moving(3, 4, here, 9, 10)))
			l.anew(t, noon)
			l.tells(t, noon)
			l.announces(t, noon, rarp(t, mac(3)))
			l.tells(t, noon, ofAwake(3, 10))
			l.anew(t, noon)
			l.tells(t, noon, ofAwake(3, 10))
		}
	}
}

// TestWaitAnew: P16.1: what was told is told at another version, once, each time.
func TestWaitAnew(t *testing.T) {
	l := met(t, here)
	for ver := 1; ver < 9; ver += 2 {
		l.hears(t, noon, ofRow(moving(3, 4, here, 6, ver)))
		l.tells(t, noon)
		for range 2 {
			l.announces(t, noon, rarp(t, mac(3)))
		}
		l.tells(t, noon, ofAwake(3, ver))
		l.hears(t, noon, ofRow(bound(3, 4, 6, ver+1)))
		l.announces(t, noon, rarp(t, mac(3)))
		l.tells(t, noon)
	}
}

// TestMovedTold: P16.1: a row that has moved from here: its flows are told, once, behind the letter with which it came; at another version again.
func TestMovedTold(t *testing.T) {
	for _, chassis := range []int{0, here, 15} {
		for _, port := range []int{0, 3, 31} {
			l := met(t, chassis, moved(port, 4, chassis, 6, 7))
			l.tells(t, noon, ofFlows(port, 7))
			l.hears(t, noon, ofRow(moved(port, 4, chassis, 6, 7)))
			l.hears(t, noon, ofRow(moved(port, 4, chassis, 6, 5)))
			l.announces(t, noon, rarp(t, mac(port)))
			l.tells(t, noon)
			l.hears(t, noon, ofRow(moved(port, 7, chassis, 6, 8)))
			l.tells(t, noon, ofFlows(port, 8))
			l.hears(t, noon, ofRow(bound(port, 7, 6, 9)))
			l.tells(t, noon)
			l.anew(t, noon)
			l.tells(t, noon)
		}
	}
}

// TestMovedElsewhere: P16.1: nothing is told of rows of other phases, nor of such that moved from another chassis.
func TestMovedElsewhere(t *testing.T) {
	for _, chassis := range []int{0, here} {
		for _, r := range []api.Row{
			moved(3, 4, 7, 6, 7), moved(3, chassis, 7, 6, 7), bound(3, chassis, 6, 7), bound(3, 4, 6, 7), moving(3, chassis, 4, 6, 7),
			moving(3, 4, chassis, 6, 7), moving(3, 4, 7, 6, 7), gone(3, 6, 7),
		} {
			l := met(t, chassis, r)
			l.tells(t, noon)
			l.anew(t, noon)
			l.tells(t, noon)
		}
	}
}

// TestMovedFlows: P16.1: with no records, some, and 16: those that live when it is told, which is the time of the letter.
func TestMovedFlows(t *testing.T) {
	for _, n := range []int{0, 1, 2, 15, 16} {
		l := met(t, here, bound(1, here, 1, 1))
		l.hears(t, noon, ofFlows(1, 1, many(n, 150)...))
		l.hears(t, 149, ofRow(moved(3, 4, here, 6, 7)))
		l.tells(t, 149, ofFlows(3, 7, many(n, 150)...))
		l.hears(t, 150, ofRow(moved(4, 4, here, 6, 7)))
		l.tells(t, 150, ofFlows(4, 7))
	}
	l := met(t, here, bound(1, here, 1, 1))
	l.hears(t, noon, ofFlows(1, 1, until(110, nth(0)), until(120, nth(1)), until(130, nth(2)), until(1<<40, nth(3))))
	l.hears(t, 110, ofRow(moved(3, 4, here, 6, 7)))
	l.tells(t, noon, ofFlows(3, 7, until(120, nth(1)), until(130, nth(2)), until(1<<40, nth(3))))
	l.anew(t, 120)
	l.tells(t, noon, ofFlows(3, 7, until(130, nth(2)), until(1<<40, nth(3))))
	l.anew(t, 0)
	l.tells(t, noon, ofFlows(3, 7, until(110, nth(0)), until(120, nth(1)), until(130, nth(2)), until(1<<40, nth(3))))
	l.anew(t, 1<<40)
	l.tells(t, noon, ofFlows(3, 7))
}

// TestMovedFlowsThen: P16.1: what a letter brings is taken over ahead of what is told behind it.
func TestMovedFlowsThen(t *testing.T) {
	l := met(t, here, bound(1, here, 1, 1))
	l.fills(t, 0)
	l.hears(t, noon, ofRow(moved(3, 4, here, 6, 7)))
	l.got = 1 // so that there is room when the next body is handed out
	l.hears(t, noon, ofFlows(1, 1, until(150, nth(0))))
	if got := l.messages(t, noon); !slices.Equal(got, texts(t, ofFlows(3, 7, until(150, nth(0))))) {
		t.Errorf("%x", got)
	}
}

// TestToldAgain: P16.1: all that was told is told again behind a letter with which it was reset, whichever that is, and behind no other one.
func TestToldAgain(t *testing.T) {
	l := met(t, here, moved(0, 4, here, 6, 7), moving(2, 4, here, 6, 9), moved(31, 7, here, 6, 7))
	l.announces(t, noon, rarp(t, mac(2)))
	all := []api.Message{ofFlows(0, 7), ofAwake(2, 9), ofFlows(31, 7)}
	l.tells(t, noon, ofFlows(0, 7), ofFlows(31, 7), ofAwake(2, 9))
	for range 3 {
		for _, x := range []session.Letter{{}, {Seq: 1, Body: []byte("it was")}, {Seq: 99, Body: []byte("too far")}} {
			l.gets(t, noon, x)
		}
		stale := session.Letter{Mine: l.far - 1, Peer: boot}
		if e := l.Take(letter(t, stale), noon); e != api.ErrStale {
			t.Errorf("stale: %d", e)
		}
		other := session.Letter{Mine: l.far, Peer: boot + 1}
		if e := l.Take(letter(t, other), noon); e != api.OK {
			t.Errorf("to another boot: %d", e)
		}
		l.hears(t, noon, ofAwake(2, 9))
		l.tells(t, noon)
		l.anew(t, noon)
		l.tells(t, noon, all...)
		l.far++
		l.seq, l.got = 0, 0
		l.hears(t, noon, ofRow(bound(5, 4, 6, 1))) // it is reset by one that has a body, too
		l.tells(t, noon, all...)
		l.far++
		l.seq, l.got = 0, 0
		if e := l.Take(letter(t, session.Letter{Mine: l.far, Peer: 0}), noon); e != api.OK {
			t.Errorf("to no boot: %d", e)
		}
		l.tells(t, noon, all...)
	}
}

// TestByPorts: P16.1: behind a letter it tells by ports, rising, whichever kind each is of.
func TestByPorts(t *testing.T) {
	l := met(t, here)
	var want, later []api.Message
	for i := range 32 {
		port := i * 7 % 32
		if port%2 == 0 {
			l.hears(t, noon, ofRow(moving(port, 4, here, 6, 7+port)))
		} else {
			l.hears(t, noon, ofRow(moved(port, 4, here, 6, 7+port)))
			later = append(later, ofFlows(port, 7+port))
		}
	}
	l.tells(t, noon, later...)
	later = nil
	for i := range 16 {
		port := i * 14 % 32
		l.announces(t, noon, rarp(t, mac(port)))
		later = append(later, ofAwake(port, 7+port))
	}
	l.tells(t, noon, later...)
	for port := range 32 {
		if port%2 == 0 {
			want = append(want, ofAwake(port, 7+port))
		} else {
			want = append(want, ofFlows(port, 7+port))
		}
	}
	l.anew(t, noon)
	if l.Len() != 32 {
		t.Errorf("Len %d", l.Len())
	}
	l.tells(t, noon, want...)
}

// TestFull: P16.1: what there is no room for is told later, by ports, as room comes, each once.
func TestFull(t *testing.T) {
	for _, room := range []int{0, 1, 2, 3, 4} {
		l := met(t, here, moving(2, 4, here, 6, 9), moving(6, 4, here, 6, 9))
		l.fills(t, 0)
		l.announces(t, noon, rarp(t, mac(6)))
		l.announces(t, noon, rarp(t, mac(2)))
		l.hears(t, noon, ofRow(moved(4, 4, here, 6, 7)))
		l.hears(t, noon, ofRow(moved(1, 4, here, 6, 7)))
		if l.Len() != 64 || l.Idle() {
			t.Fatalf("Len %d", l.Len())
		}
		want := texts(t, ofFlows(1, 7), ofAwake(2, 9), ofFlows(4, 7), ofAwake(6, 9))
		l.acknowledges(t, room, noon)
		if l.Len() != 64 {
			t.Fatalf("room for %d: Len %d", room, l.Len())
		}
		l.acknowledges(t, 64-room, noon)
		if l.Len() != 4 {
			t.Fatalf("room for %d: Len %d", room, l.Len())
		}
		if got := l.messages(t, noon); !slices.Equal(got, want) {
			t.Errorf("room for %d: %x; want %x", room, got, want)
		}
		l.gets(t, noon, session.Letter{})
		l.tells(t, noon)
	}
}

// TestFullThen: P16.1: what could not be told is not told any more, if its row is another one by then, and with the records of then.
func TestFullThen(t *testing.T) {
	l := met(t, here, bound(1, here, 1, 1), moving(2, 4, here, 6, 9), moving(3, 4, here, 6, 9))
	l.fills(t, 0)
	l.announces(t, noon, rarp(t, mac(2)))
	l.announces(t, noon, rarp(t, mac(3)))
	l.hears(t, noon, ofFlows(1, 1, until(150, nth(0)), until(160, nth(1))))
	l.hears(t, noon, ofRow(moved(4, 4, here, 6, 7)))
	l.hears(t, noon, ofRow(moved(5, 4, here, 6, 7)))
	l.hears(t, noon, ofRow(bound(2, 4, 6, 10)))
	l.hears(t, noon, ofRow(bound(4, 4, 6, 8)))
	want := texts(t, ofAwake(3, 9), ofFlows(5, 7, until(160, nth(1))))
	l.acknowledges(t, 64, 155)
	if got := l.messages(t, 155); !slices.Equal(got, want) {
		t.Errorf("%x; want %x", got, want)
	}
}

// TestFullBehindAnnouncement: P16.1: it settles behind an announcement, too: where there is room for one, the first port takes it.
func TestFullBehindAnnouncement(t *testing.T) {
	l := met(t, here, moving(2, 4, here, 6, 9), moving(6, 4, here, 6, 9))
	l.fills(t, 1)
	l.announces(t, noon, rarp(t, mac(6)))
	l.announces(t, noon, rarp(t, mac(2)))
	if l.Len() != 64 {
		t.Errorf("Len %d", l.Len())
	}
	l.acknowledges(t, 63, noon)
	if got, want := l.messages(t, noon), texts(t, ofAwake(6, 9), ofAwake(2, 9)); !slices.Equal(got, want) {
		t.Errorf("%x; want %x", got, want)
	}
}

// TestQuiet: P16.1: it settles behind letters and announcements alone: a frame that announces nothing awaited, and a packet, tell nothing.
func TestQuiet(t *testing.T) {
	l := met(t, here, bound(1, here, 1, 1), moving(2, 4, here, 6, 9), moved(3, 4, here, 6, 7))
	l.tells(t, noon, ofFlows(3, 7))
	f := talks(t, mac(1), nth(0))
	l.guest(t, f, noon, 1, delivered(t, 1, 1, 1, f))
	l.guest(t, rarp(t, mac(1)), noon, 1, dpath.Outcome{})
	l.tunnelled(t, normal(t, 1, 1, f), noon, delivered(t, 1, 1, 1, f))
	l.tunnelled(t, forwarded(t, 2, 1, f), noon, dpath.Outcome{})
	if l.Len() != 0 {
		t.Errorf("Len %d", l.Len())
	}
}
