package agent_test

import (
	"slices"
	"testing"

	"rutter/api"
	"rutter/dpath"
	"rutter/session"
)

// busy is a line with rows of each kind, a wait that was told, flows, and things in its queue that were not acknowledged.
func busy(t *testing.T) *line {
	t.Helper()
	l := met(t, here, bound(1, here, 2, 1), moving(2, 4, here, 3, 4), moved(3, 4, here, 5, 6), bound(4, 7, 1, 1), moving(6, 4, here, 1, 2))
	for i := range 3 {
		f := talks(t, mac(1), nth(i))
		l.guest(t, f, noon+i, 1, delivered(t, 1, 2, 2, f))
	}
	l.announces(t, noon, rarp(t, mac(2)))
	return l
}

// refuses checks that a letter's bytes are refused, and that nothing is done.
func refuses(t *testing.T, b []byte, now int, e api.Errno) {
	t.Helper()
	unchanged(t, func() *line { return busy(t) }, func(l *line) {
		if got := l.Take(b, now); got != e {
			t.Fatalf("Take of %x at %d: %d; want %d", b, now, got, e)
		}
	})
}

// next is the letter that comes next to a busy line.
func next(m []byte) session.Letter {
	return session.Letter{Mine: far, Peer: boot, Seq: 6, Body: m}
}

// TestTakeNoLetter: P16.1: bytes that are no letter's.
func TestTakeNoLetter(t *testing.T) {
	good := letter(t, next(body(t, ofRow(bound(3, here, 6, 7)))))
	for n := range good {
		refuses(t, good[:n], noon, api.ErrForm)
	}
	refuses(t, nil, noon, api.ErrForm)
	refuses(t, append(slices.Clone(good), 0), noon, api.ErrForm)
	refuses(t, make([]byte, 24), noon, api.ErrForm)
	refuses(t, make([]byte, 5000), noon, api.ErrForm)
	for _, place := range []int{0, 5, 10, 16, 22} { // each number's highest byte
		wrong := slices.Clone(good)
		wrong[place] = 0x80
		refuses(t, wrong, noon, api.ErrForm)
	}
	none := letter(t, session.Letter{Mine: far, Peer: boot})
	none[23]++ // it has a body now, though its SEQ is 0
	refuses(t, append(none, 7), noon, api.ErrForm)
}

// TestTakeStale: P16.1: a letter of a boot below the one that is known.
func TestTakeStale(t *testing.T) {
	for _, n := range []int{1, 2, far - 1} {
		for _, peer := range []int{0, boot, boot + 1} {
			x := next(body(t, ofRow(bound(3, here, 6, 7))))
			x.Mine, x.Peer, x.Ack = n, peer, 1<<40
			refuses(t, letter(t, x), noon, api.ErrStale)
			refuses(t, letter(t, session.Letter{Mine: n, Peer: peer, Ack: 9}), noon, api.ErrStale)
			x.Seq = 1
			refuses(t, letter(t, x), noon, api.ErrStale)
		}
	}
}

// TestTakeTimes: P16.1: a time that there can't be is told ahead of all else, and nothing is done; at the edges it is taken.
func TestTakeTimes(t *testing.T) {
	good := next(body(t, ofRow(bound(3, here, 6, 7))))
	stale := good
	stale.Mine = 1
	reset := good
	reset.Mine, reset.Seq = far+1, 1
	for _, now := range wrongTimes() {
		for _, x := range []session.Letter{good, stale, reset} {
			refuses(t, letter(t, x), now, api.ErrArg)
		}
		refuses(t, nil, now, api.ErrArg)
		refuses(t, []byte("no letter"), now, api.ErrArg)
	}
	for _, now := range rightTimes() {
		l := busy(t)
		l.hears(t, now, ofRow(bound(3, here, 6, 7)))
		if r := l.Rows()[2]; r != bound(3, here, 6, 7) {
			t.Errorf("at %d: %+v", now, r)
		}
		refuses(t, nil, now, api.ErrForm)
		refuses(t, letter(t, stale), now, api.ErrStale)
	}
}

// TestTakeSame: P16.1: a letter of the boot that is known: what it acknowledges goes, what it has is handed out.
func TestTakeSame(t *testing.T) {
	l := busy(t)
	if l.Len() != 2 {
		t.Fatalf("Len %d", l.Len())
	}
	for _, x := range []struct{ ack, left int }{{0, 2}, {1, 1}, {0, 1}, {1, 1}, {2, 0}, {7, 0}} {
		if e := l.Take(letter(t, session.Letter{Mine: far, Peer: boot, Ack: x.ack}), noon); e != api.OK || l.Len() != x.left {
			t.Errorf("acknowledged %d: %d, Len %d", x.ack, e, l.Len())
		}
	}
	l.got = 2
	l.hears(t, noon, ofRow(bound(9, here, 1, 1)))
	l.tells(t, noon)
}

// TestTakeAbove: P16.1: a letter of a boot above: the queue, and what was told, begin anew, and the rows, the waits and the flows stay; its first body is handed out.
func TestTakeAbove(t *testing.T) {
	again := []api.Message{ofAwake(2, 4), ofFlows(3, 6, until(110, nth(0)), until(111, nth(1)), until(112, nth(2)))}
	for _, n := range []int{far + 1, far + 9, 1 << 32} {
		l := busy(t)
		rows := l.Rows()
		l.Push([]byte("it goes"))
		l.far, l.seq, l.got = n, 0, 0
		l.gets(t, noon, session.Letter{})
		l.has(t, rows...)
		l.tells(t, noon, again...)
		l = busy(t)
		l.far, l.seq, l.got = n, 0, 0
		l.hears(t, noon, ofRow(bound(9, here, 1, 1)))
		l.has(t, append(rows, bound(9, here, 1, 1))...)
		l.tells(t, noon, again...)
	}
}

// TestTakePeer: P16.1: of a letter to another boot than the agent's nothing is handed out, and nothing acknowledged; but it may be reset by it.
func TestTakePeer(t *testing.T) {
	for _, peer := range []int{0, 1, boot - 1, boot + 1, 1 << 32} {
		unchanged(t, func() *line { return busy(t) }, func(l *line) {
			x := next(body(t, ofRow(bound(3, here, 6, 7))))
			x.Peer, x.Ack = peer, 9
			if e := l.Take(letter(t, x), noon); e != api.OK {
				t.Fatalf("to %d: %d", peer, e)
			}
		})
		l := busy(t)
		rows := l.Rows()
		x := session.Letter{Mine: far + 1, Peer: peer, Seq: 1, Ack: 1, Body: body(t, ofRow(bound(9, here, 1, 1)))}
		if e := l.Take(letter(t, x), noon); e != api.OK {
			t.Fatalf("to %d: %d", peer, e)
		}
		l.far, l.seq, l.got = far+1, 0, 0
		l.has(t, rows...)
		if got := l.letters(t); len(got) != 2 || got[0].Ack != 0 {
			t.Errorf("to %d: %+v", peer, got)
		}
		l.hears(t, noon, ofRow(bound(9, here, 1, 1)))
		l.has(t, append(rows, bound(9, here, 1, 1))...)
	}
}

// TestTakeSeq: P16.1: a body is handed out if it is the next one, not if it was, or is too far.
func TestTakeSeq(t *testing.T) {
	for _, seq := range []int{1, 4, 5, 7, 8, 100, 1 << 40} {
		unchanged(t, func() *line { return busy(t) }, func(l *line) {
			x := next(body(t, ofRow(bound(3, here, 6, 7))))
			x.Seq = seq
			if e := l.Take(letter(t, x), noon); e != api.OK {
				t.Fatalf("of %d: %d", seq, e)
			}
		})
	}
	l := busy(t)
	for i, seq := range []int{7, 6, 6, 8, 5, 7, 7, 6, 8} {
		x := next(body(t, ofRow(bound(9, here, 1, seq))))
		x.Seq = seq
		if e := l.Take(letter(t, x), noon); e != api.OK {
			t.Fatalf("letter %d: %d", i, e)
		}
		want := []int{5, 6, 6, 6, 6, 7, 7, 7, 8}[i]
		ver := 0
		if rows := l.Rows(); len(rows) == 6 {
			ver = rows[5].Ver
		}
		if got := l.letters(t); got[0].Ack != want || ver != want && want > 5 || ver != 0 && want == 5 {
			t.Errorf("letter %d, of %d: acknowledged %d, version %d; want %d", i, seq, got[0].Ack, ver, want)
		}
	}
}

// TestTakeNoMessage: P16.1: a body that is no message does nothing, but is acknowledged, and what comes behind it is heard.
func TestTakeNoMessage(t *testing.T) {
	whole := body(t, ofRow(bound(3, here, 6, 7)))
	flows := body(t, ofFlows(1, 1, until(120, nth(5))))
	l := busy(t)
	rows := l.Rows()
	for _, b := range [][]byte{
		{0}, {1}, {2}, {3}, {4}, {255}, []byte("no message"), make([]byte, 1000), whole[:28], append(slices.Clone(whole), 0),
		{2, 32, 0, 0, 0, 0, 0, 1}, {2, 2, 0, 0, 0, 0, 0, 0}, flows[:len(flows)-1], append(slices.Clone(flows), 1), append([]byte{4}, whole[1:]...),
		append(slices.Clone(flows[:8]), 17),
	} {
		l.says(t, noon, b)
		l.has(t, rows...)
		l.tracks(t, noon, until(110, nth(0)), until(111, nth(1)), until(112, nth(2)))
	}
	wrong := bound(3, here, 6, 7)
	for _, place := range []int{1, 8, 9, 10, 11, 12, 17} { // the port, the owner, the target, the old one, the phase, the generation, the version
		b := body(t, ofRow(wrong))
		b[place] = 99
		l.says(t, noon, b)
		l.has(t, rows...)
	}
	l.hears(t, noon, ofRow(bound(9, 1, 1, 1)))
	l.has(t, append(rows, bound(9, 1, 1, 1))...)
	l.tells(t, noon, ofFlows(3, 6), ofAwake(2, 4))
}

// phases are rows of a port of each phase, of a version.
func phases(port, ver int) []api.Row {
	return []api.Row{
		bound(port, here, 4, ver), bound(port, 7, 4, ver), moving(port, here, 7, 4, ver), moving(port, 7, here, 4, ver), moving(port, 7, 8, 4, ver),
		moved(port, here, 7, 4, ver), moved(port, 7, here, 4, ver), moved(port, 7, 8, 4, ver), gone(port, 4, ver),
	}
}

// TestTakeRow: P16.1: a row of a port that it has none of; then one of a lesser version, of the same one, and of a greater one: of each phase, at each port's edge.
func TestTakeRow(t *testing.T) {
	for _, port := range []int{0, 3, 31} {
		for _, first := range phases(port, 50) {
			for _, second := range phases(port, 50) {
				l := met(t, here, bound(9, here, 1, 50))
				want := []api.Row{bound(9, here, 1, 50), first}
				if port < 9 {
					want[0], want[1] = want[1], want[0]
				}
				at := slices.Index(want, first)
				l.hears(t, noon, ofRow(first))
				l.has(t, want...)
				for _, ver := range []int{50, 49, 1} {
					second.Ver, second.Since, second.Gen, second.MAC = ver, 7, 9, 11
					l.hears(t, noon, ofRow(second))
					l.has(t, want...)
				}
				for _, ver := range []int{51, 53, 1 << 40} {
					second.Ver, second.Gen = ver, 1 // a generation that falls is nothing to it
					want[at] = second
					l.hears(t, noon, ofRow(second))
					l.has(t, want...)
				}
			}
		}
	}
}

// TestTakeRowWhole: P16.1: a row stands as it came, with all that it has.
func TestTakeRowWhole(t *testing.T) {
	for _, r := range []api.Row{
		{Port: 31, MAC: api.MaxMAC, Owner: 15, Target: -1, Old: 14, Gen: 1 << 32, Phase: api.Moved, Ver: 1 << 40, Since: 1 << 40},
		{Port: 0, MAC: 0, Owner: 0, Target: 15, Old: -1, Gen: 1, Phase: api.Moving, Ver: 1, Since: 0},
		{Port: 7, MAC: 5, Owner: -1, Target: -1, Old: -1, Gen: 2, Phase: api.Gone, Ver: 3, Since: 4},
	} {
		met(t, here, r).has(t, r)
	}
}

// TestTakeRowGone: P16.1: a row that is gone stands, and is not taken back by an elder one.
func TestTakeRowGone(t *testing.T) {
	l := met(t, here, bound(3, here, 4, 5), gone(3, 4, 6), bound(3, here, 4, 5), moving(3, 4, here, 4, 4))
	l.has(t, gone(3, 4, 6))
	l.guest(t, api.Frame{Dst: mac(3)}, noon, 1, dpath.Outcome{})
	l.hears(t, noon, ofRow(bound(3, here, 5, 7)))
	l.guest(t, api.Frame{Dst: mac(3)}, noon, 1, delivered(t, 3, 5, 5, api.Frame{Dst: mac(3)}))
}

// TestTakeAwake: P16.1: a message of Kind 2 does nothing, whichever its port and its version are.
func TestTakeAwake(t *testing.T) {
	for _, port := range []int{0, 1, 2, 3, 6, 9, 31} {
		for _, ver := range []int{1, 2, 4, 6, 1 << 40} {
			l := busy(t)
			was := stateOf(l.Agent)
			l.hears(t, noon, ofAwake(port, ver))
			l.gets(t, noon, session.Letter{})
			now := stateOf(l.Agent)
			now.out = was.out // but for what it acknowledges
			if !now.equal(was) || l.Len() != 2 {
				t.Errorf("awake %d %d: %+v; was %+v", port, ver, now, was)
			}
			l.anew(t, noon)
			l.tells(t, noon, ofAwake(2, 4), ofFlows(3, 6, until(110, nth(0)), until(111, nth(1)), until(112, nth(2))))
		}
	}
}

// TestTakeFlows: P16.1: a message of Kind 3 is taken over where its port's row has this chassis as Owner, whatever its phase and its version; not where it has another one, or is gone, or there is none.
func TestTakeFlows(t *testing.T) {
	for _, chassis := range []int{0, here, 15} {
		for _, r := range []api.Row{bound(3, chassis, 4, 5), moving(3, chassis, 7, 4, 5), moved(3, chassis, 7, 4, 5)} {
			for _, ver := range []int{1, 4, 5, 6, 1 << 40} {
				l := met(t, chassis, r)
				l.hears(t, noon, ofFlows(3, ver, until(120, nth(0)), until(101, nth(1))))
				l.tracks(t, noon, until(120, nth(0)), until(101, nth(1)))
				l.hears(t, noon, ofFlows(4, ver, until(120, nth(2))))
				l.tracks(t, noon, until(120, nth(0)), until(101, nth(1)))
			}
		}
		for _, r := range []api.Row{bound(3, 7, 4, 5), moving(3, 7, chassis, 4, 5), moved(3, 7, chassis, 4, 5), gone(3, 4, 5), bound(4, chassis, 4, 5)} {
			l := met(t, chassis, r)
			l.hears(t, noon, ofFlows(3, 5, until(120, nth(0))))
			l.tracks(t, noon)
		}
		for port := range 32 {
			l := met(t, chassis)
			l.hears(t, noon, ofFlows(port, 1, until(120, nth(0))))
			l.tracks(t, 0)
			l.has(t)
		}
	}
}

// TestTakeFlowsLiving: P16.1, by 12's Import: records that live at that time come, in order; those that don't live don't; one alike stays until the later one; more than there is room for don't.
func TestTakeFlowsLiving(t *testing.T) {
	l := met(t, here, bound(3, here, 4, 5))
	l.hears(t, noon, ofFlows(3, 5, until(noon-1, nth(0)), until(noon, nth(1)), until(noon+1, nth(2)), until(0, nth(3)), until(1<<40, nth(4))))
	l.tracks(t, 0, until(noon+1, nth(2)), until(1<<40, nth(4)))
	l.hears(t, noon, ofFlows(3, 5, until(noon+3, back(nth(2))), until(noon+9, nth(4)), until(noon+2, nth(1))))
	l.tracks(t, 0, until(noon+3, nth(2)), until(1<<40, nth(4)), until(noon+2, nth(1)))
	l.hears(t, noon+2, ofFlows(3, 5))
	l.tracks(t, 0, until(noon+3, nth(2)), until(1<<40, nth(4))) // what lives no more went
	l.hears(t, noon+2, ofFlows(3, 5, many(15, 150)...))
	want := []api.Record{until(150, nth(2)), until(1<<40, nth(4))}
	for _, r := range many(15, 150) {
		if r.Flow != nth(2) && r.Flow != nth(4) {
			want = append(want, r)
		}
	}
	l.tracks(t, 0, want...)
	l.hears(t, noon+2, ofFlows(3, 5, until(160, nth(20)), until(160, nth(21)), until(170, nth(14))))
	want[14].Until = 170
	l.tracks(t, 0, append(want, until(160, nth(20)))...)
	l.hears(t, 160, ofFlows(3, 5, many(3, 200)...))
	l.tracks(t, 0, until(1<<40, nth(4)), until(170, nth(14)), until(200, nth(0)), until(200, nth(1)), until(200, nth(2)))
}

// TestTakeFlowsAtTheEnds: P16.1: at the first time and at the last one.
func TestTakeFlowsAtTheEnds(t *testing.T) {
	l := met(t, here, bound(3, here, 4, 5))
	l.hears(t, 1<<40, ofFlows(3, 5, until(1<<40, nth(0))))
	l.tracks(t, 0)
	l.hears(t, 0, ofFlows(3, 5, until(0, nth(0)), until(1, nth(1))))
	l.tracks(t, 0, until(1, nth(1)))
}
