package agent_test

import (
	"slices"
	"testing"

	"rutter/api"
	"rutter/dpath"
	"rutter/inet"
)

// looks are ways in which a frame comes to an agent, and what becomes of it there: 0, 1 or 2.
func looks(t *testing.T) []struct {
	done int
	look func(l *line, f api.Frame, now int) (dpath.Outcome, api.Errno)
} {
	t.Helper()
	guest := func(to uint64) func(l *line, f api.Frame, now int) (dpath.Outcome, api.Errno) {
		return func(l *line, f api.Frame, now int) (dpath.Outcome, api.Errno) {
			f.Dst = to
			return l.Guest(f, now, 1)
		}
	}
	packet := func(x api.Packet) func(l *line, f api.Frame, now int) (dpath.Outcome, api.Errno) {
		return func(l *line, f api.Frame, now int) (dpath.Outcome, api.Errno) {
			x.Frame = raw(t, f)
			return l.Tunnel(x, now)
		}
	}
	return []struct {
		done int
		look func(l *line, f api.Frame, now int) (dpath.Outcome, api.Errno)
	}{
		{0, guest(mac(9))}, {1, guest(mac(3))}, {2, guest(mac(4))}, {2, guest(mac(2))},
		{0, packet(normal(t, 9, 1, api.Frame{}))}, {0, packet(normal(t, 3, 7, api.Frame{}))}, {0, packet(forwarded(t, 4, 1, api.Frame{}))},
		{1, packet(normal(t, 3, 6, api.Frame{}))}, {1, packet(forwarded(t, 3, 5, api.Frame{}))}, {2, packet(normal(t, 4, 5, api.Frame{}))},
	}
}

// looker is a line of an agent with rows by which looks become what they do.
func looker(t *testing.T) *line {
	t.Helper()
	return met(t, here, bound(3, here, 6, 7), moved(4, 7, here, 6, 7), moving(2, 7, here, 1, 2))
}

// TestNote: P16.1: the flow of a frame of IPv4 whose load is a datagram is noted, if it is delivered or sent, of a guest or of a tunnel, and not if it is dropped.
func TestNote(t *testing.T) {
	for i, x := range looks(t) {
		for _, f := range []api.Flow{nth(0), back(nth(0)), {Proto: api.UDP}, {Proto: api.UDP, Src: 1<<32 - 1, Dst: 1<<32 - 1, SrcPort: 65535, DstPort: 65535}} {
			l := looker(t)
			o, e := x.look(l, talks(t, 0, f), noon)
			if o.Kind != x.done || e != api.OK {
				t.Fatalf("look %d: %+v, %d", i, o, e)
			}
			if x.done == 0 {
				l.tracks(t, 0)
				continue
			}
			l.tracks(t, noon+life-1, until(noon+life, f))
			l.tracks(t, noon+life)
		}
	}
}

// spoiled is a datagram with a byte of its own at a place, and the right check, if it is to be.
func spoiled(t *testing.T, place int, c byte, right bool) []byte {
	t.Helper()
	b := datagram(t, nth(0))
	b[place] = c
	if right {
		b[10], b[11] = 0, 0
		n := inet.Check(b[:20])
		b[10], b[11] = byte(n>>8), byte(n)
	}
	return b
}

// TestNoteNone: P16.1: nothing is noted of a frame whose load is no datagram, or that is of another type.
func TestNoteNone(t *testing.T) {
	whole := datagram(t, nth(0))
	for i, x := range looks(t) {
		for _, f := range []api.Frame{
			{Type: api.TypeIPv4}, {Type: api.TypeIPv4, Load: []byte("no datagram")}, {Type: api.TypeIPv4, Load: whole[:len(whole)-1]},
			{Type: api.TypeIPv4, Load: append(slices.Clone(whole), 0)}, {Type: api.TypeIPv4, Load: whole[:23]},
			{Type: api.TypeIPv4, Load: spoiled(t, 0, 70, true)}, {Type: api.TypeIPv4, Load: spoiled(t, 9, 1, true)}, {Type: api.TypeIPv4, Load: spoiled(t, 8, 63, false)},
			{Type: 0, Load: whole}, {Type: api.TypeIPv4 - 1, Load: whole}, {Type: api.TypeIPv4 + 1, Load: whole}, {Type: api.TypeARP, Load: whole},
			{Type: api.TypeRARP, Load: whole}, {Type: 0x86dd, Load: whole}, {Type: 65535, Load: whole},
		} {
			l := looker(t)
			if o, e := x.look(l, f, noon); o.Kind != x.done || e != api.OK {
				t.Fatalf("look %d: %+v, %d", i, o, e)
			}
			l.tracks(t, 0)
		}
	}
}

// TestNoteOther: P16.1: of a datagram with another number in its head, whose check is right, the flow is noted.
func TestNoteOther(t *testing.T) {
	for _, x := range looks(t) {
		l := looker(t)
		x.look(l, api.Frame{Type: api.TypeIPv4, Load: spoiled(t, 8, 63, true)}, noon)
		if x.done != 0 {
			l.tracks(t, 0, until(noon+life, nth(0)))
		}
	}
}

// TestNoteWay: P16.1, by 12: a flow that is seen again, or whose way back is, is until later; others come behind it; those that don't live go.
func TestNoteWay(t *testing.T) {
	l := looker(t)
	for i, x := range looks(t) {
		x.look(l, talks(t, 0, nth(0)), noon+i)
		x.look(l, talks(t, 0, back(nth(0))), noon+i)
	}
	l.tracks(t, 0, until(noon+9+life, nth(0)))
	give := looks(t)[1].look
	give(l, talks(t, 0, back(nth(0))), noon) // an earlier time changes nothing
	l.tracks(t, 0, until(noon+9+life, nth(0)))
	give(l, talks(t, 0, back(nth(1))), noon+15)
	give(l, talks(t, 0, nth(1)), noon+16)
	l.tracks(t, 0, until(noon+9+life, nth(0)), until(noon+16+life, back(nth(1))))
	give(l, talks(t, 0, nth(2)), noon+9+life)
	l.tracks(t, 0, until(noon+16+life, back(nth(1))), until(noon+9+2*life, nth(2)))
	give(l, talks(t, 0, nth(3)), 1<<40)
	l.tracks(t, 0, until(1<<40, nth(3)))
}

// TestNoteFull: P16.1: of a full table's frames become what becomes of others, and nothing is noted, until there is room.
func TestNoteFull(t *testing.T) {
	for i, x := range looks(t) {
		l := looker(t)
		l.hears(t, noon, ofFlows(3, 1, many(16, 150)...))
		if o, e := x.look(l, talks(t, 0, nth(20)), noon); o.Kind != x.done || e != api.OK {
			t.Fatalf("look %d: %+v, %d", i, o, e)
		}
		l.tracks(t, 0, many(16, 150)...)
		x.look(l, talks(t, 0, back(nth(7))), 145)
		want := many(16, 150)
		if x.done != 0 {
			want[7].Until = 155
		}
		l.tracks(t, 0, want...)
		x.look(l, talks(t, 0, nth(20)), 150)
		if x.done != 0 {
			want = []api.Record{until(155, nth(7)), until(160, nth(20))}
		}
		l.tracks(t, 0, want...)
	}
}

// TestNoteAnnounced: P16.1: nothing is noted of what announces and is dropped, though its frame would be sent else.
func TestNoteAnnounced(t *testing.T) {
	l := looker(t)
	f := rarp(t, mac(2))
	f.Dst = mac(3)
	l.announces(t, noon, f)
	l.tracks(t, 0)
}

// TestNoteTold: P16.1: what was noted here is told to where the port moved, and known there.
func TestNoteTold(t *testing.T) {
	l := met(t, here, bound(3, here, 6, 7))
	f := talks(t, mac(3), nth(0))
	l.guest(t, f, noon, 1, delivered(t, 3, 6, 6, f))
	l.tunnelled(t, normal(t, 3, 6, talks(t, mac(3), nth(1))), noon+3, delivered(t, 3, 6, 6, talks(t, mac(3), nth(1))))
	l.hears(t, noon+4, ofRow(moved(3, 7, here, 7, 8)))
	m := ofFlows(3, 8, until(noon+life, nth(0)), until(noon+3+life, nth(1)))
	l.tells(t, noon+4, m)
	other := met(t, 7, moved(3, 7, here, 7, 8))
	other.hears(t, noon+5, m)
	other.tracks(t, noon+5, m.Records...)
}
