package agent_test

import (
	"math"
	"testing"

	"rutter/api"
	"rutter/dpath"
)

// TestAnnounce: P16.1: a frame that announces the address of a row that is moving to this chassis, as ARP or as RARP: it is dropped, and what waits is told.
func TestAnnounce(t *testing.T) {
	for _, port := range []int{0, 3, 31} {
		for _, f := range announcements(t, mac(port)) {
			for _, to := range []uint64{api.MaxMAC, mac(port), mac(9), mac(8), 7, 0} {
				l := met(t, here, moving(port, 4, here, 6, 7), bound(9, here, 1, 1), bound(8, 7, 1, 1))
				f.Dst, f.Src = to, 77
				l.announces(t, noon, f)
				l.tells(t, noon, ofAwake(port, 7))
			}
		}
	}
}

// TestAnnounceOthers: P16.1: of a row that moves to another chassis, or from here, that is bound, has moved, or is gone, or of no row, nothing waits, and it is a frame as any other.
func TestAnnounceOthers(t *testing.T) {
	for _, chassis := range []int{0, here} {
		for _, r := range []api.Row{
			moving(3, 4, 7, 6, 7), moving(3, chassis, 4, 6, 7), bound(3, chassis, 6, 7), bound(3, 4, 6, 7), moved(3, chassis, 4, 6, 7),
			moved(3, 4, 7, 6, 7), gone(3, 6, 7), with(12, moving(3, 4, chassis, 6, 7)), bound(4, 4, 6, 7),
		} {
			for _, f := range announcements(t, mac(3)) {
				l := met(t, chassis, bound(9, chassis, 1, 1), r)
				l.guest(t, f, noon, 1, dpath.Outcome{})
				f.Dst = mac(9)
				l.guest(t, f, noon, 1, delivered(t, 9, 1, 1, f))
				l.tells(t, noon)
				l.anew(t, noon)
				l.tells(t, noon)
			}
		}
	}
}

// TestAnnounceNoRow: P16.1: without rows nothing is awaited, whatever the chassis and the address are.
func TestAnnounceNoRow(t *testing.T) {
	for chassis := range 16 {
		for _, address := range []uint64{0, 1, mac(0), mac(3), api.MaxMAC} {
			l := met(t, chassis)
			l.guest(t, rarp(t, address), noon, 1, dpath.Outcome{})
			l.tells(t, noon)
			l.hears(t, noon, ofRow(bound(9, chassis, 1, 1)))
			f := rarp(t, address)
			f.Dst = mac(9)
			l.guest(t, f, noon, 1, delivered(t, 9, 1, 1, f))
		}
	}
}

// TestAnnounceNothing: P16.1: a frame that announces nothing is a frame as any other, also of a guest whose port is moving here.
func TestAnnounceNothing(t *testing.T) {
	wrong := rarp(t, mac(3))
	wrong.Type = api.TypeIPv4
	short := rarp(t, mac(3))
	short.Load = short.Load[:27]
	asked := rarp(t, mac(3))
	asked.Load[7] = 4
	for _, f := range []api.Frame{
		{}, {Src: mac(3)}, {Src: mac(3), Type: api.TypeRARP}, {Src: mac(3), Type: api.TypeARP}, wrong, short, asked,
		asks(t, api.MaxMAC, mac(3), 1, 7, 8), asks(t, api.MaxMAC, mac(3), 3, 7, 7), asks(t, api.MaxMAC, mac(3), 0, 7, 7), talks(t, api.MaxMAC, nth(0)),
	} {
		l := met(t, here, moving(3, 4, here, 6, 7), bound(9, here, 1, 1), bound(8, 7, 2, 1))
		for _, to := range []uint64{f.Dst, mac(3), mac(8), mac(9)} {
			f.Dst = to
			want := dpath.Outcome{}
			switch to {
			case mac(3):
				want = sent(t, 4, 3, 6, 1, f)
			case mac(8):
				want = sent(t, 7, 8, 2, 1, f)
			case mac(9):
				want = delivered(t, 9, 1, 1, f)
			}
			l.guest(t, f, noon, 1, want)
		}
		l.tells(t, noon)
		l.anew(t, noon)
		l.tells(t, noon)
	}
}

// TestAnnounceTwoRows: P16.1: of rows with one address the first one, by ports, that is moving to this chassis waits, in whichever order they came.
func TestAnnounceTwoRows(t *testing.T) {
	one := func(r api.Row) api.Row { return with(mac(3), r) }
	a, b := one(moving(2, 4, here, 6, 7)), one(moving(8, 4, here, 6, 9))
	for _, x := range []struct {
		rows []api.Row
		want api.Message
	}{
		{[]api.Row{a, b}, ofAwake(2, 7)}, {[]api.Row{b, a}, ofAwake(2, 7)},
		{[]api.Row{one(bound(2, here, 6, 7)), b}, ofAwake(8, 9)}, {[]api.Row{b, one(gone(2, 6, 7))}, ofAwake(8, 9)},
		{[]api.Row{one(moving(2, 4, 7, 6, 7)), b}, ofAwake(8, 9)}, {[]api.Row{one(moved(2, here, 7, 6, 7)), b}, ofAwake(8, 9)},
		{[]api.Row{a, one(bound(8, here, 6, 7))}, ofAwake(2, 7)}, {[]api.Row{one(bound(8, 4, 6, 7)), a}, ofAwake(2, 7)},
		{[]api.Row{with(mac(4), a), b}, ofAwake(8, 9)}, {[]api.Row{a, with(mac(4), b)}, ofAwake(2, 7)},
	} {
		l := met(t, here, x.rows...)
		for range 2 {
			l.announces(t, noon, rarp(t, mac(3)))
		}
		l.tells(t, noon, x.want)
	}
	l := met(t, here, a, b)
	l.announces(t, noon, rarp(t, mac(3)))
	l.hears(t, noon, ofRow(one(moved(2, here, 4, 7, 8))))
	l.announces(t, noon, rarp(t, mac(3)))
	l.tells(t, noon, ofAwake(2, 7), ofAwake(8, 9))
}

// TestAnnounceEdges: P16.1: the least address and the greatest one.
func TestAnnounceEdges(t *testing.T) {
	for _, n := range []uint64{0, 1, api.MaxMAC - 1, api.MaxMAC} {
		l := met(t, here, with(n, moving(3, 4, here, 6, 7)), with(n^1, moving(2, 4, here, 6, 7)))
		l.announces(t, noon, rarp(t, n))
		l.tells(t, noon, ofAwake(3, 7))
	}
}

// TestGuestWrong: P16.1: frames and IDs that may not be, also where it announces, and times: nothing is done.
func TestGuestWrong(t *testing.T) {
	start := func() *line { return met(t, here, moving(3, 4, here, 6, 7), bound(9, here, 1, 1), bound(8, 7, 2, 1)) }
	wrong := func(f api.Frame, now, id int) {
		t.Helper()
		unchanged(t, start, func(l *line) {
			if o, e := l.Guest(f, now, id); !same(o, dpath.Outcome{}) || e != api.ErrArg {
				t.Fatalf("%+v, %d at %d: %+v, %d; want an error", f, id, now, o, e)
			}
		})
	}
	for _, f := range []api.Frame{rarp(t, mac(3)), asks(t, mac(9), mac(3), 1, 7, 7), talks(t, mac(9), nth(0)), talks(t, mac(8), nth(0)), {}} {
		for _, id := range []int{math.MinInt, -1 << 40, -1, 1<<40 + 1, 1 << 41, math.MaxInt} {
			wrong(f, noon, id)
			wrong(f, -1, id)
		}
		for _, now := range wrongTimes() {
			wrong(f, now, 1)
			wrong(api.Frame{Type: -1, Load: f.Load}, now, 1)
		}
		for i := range 6 {
			x := f
			switch i {
			case 0:
				x.Dst |= 1 << 48
			case 1:
				x.Src |= 1 << 63
			case 2:
				x.Type += 65536
			case 3:
				x.Type -= 65536
			case 4:
				x.Load = append(f.Load[:len(f.Load):len(f.Load)], make([]byte, 1501-len(f.Load))...)
			case 5:
				x.Load, x.Dst = make([]byte, 1501), 1<<64-1
			}
			wrong(x, noon, 1)
			wrong(x, noon, -1)
		}
	}
}

// TestGuestTimes: P16.1: a frame is looked at, and what it announces waits, at each time that there can be, and with each ID.
func TestGuestTimes(t *testing.T) {
	for _, now := range rightTimes() {
		for _, id := range []int{0, 1, 1<<40 - 1, 1 << 40} {
			l := met(t, here, moving(3, 4, here, 6, 7), bound(9, here, 1, 1), bound(8, 7, 2, 1))
			f, g := talks(t, mac(9), nth(0)), talks(t, mac(8), nth(1))
			l.guest(t, f, now, id, delivered(t, 9, 1, 1, f))
			l.guest(t, g, now, id, sent(t, 7, 8, 2, id, g))
			l.guest(t, rarp(t, mac(3)), now, id, dpath.Outcome{})
			l.tracks(t, 0, twoSeen(now)...)
			l.tells(t, noon, ofAwake(3, 7))
		}
	}
}

// twoSeen are the records of two flows that were seen at a time. The first one doesn't live any more when the second is noted, if that is the last time of all.
func twoSeen(now int) []api.Record {
	if now == 1<<40 {
		return []api.Record{until(now, nth(1))}
	}
	end := min(now+life, 1<<40)
	return []api.Record{until(end, nth(0)), until(end, nth(1))}
}

// TestGuest: P16.1, by 15: what becomes of a frame by rows of each phase, of the owner and of others, and without one.
func TestGuest(t *testing.T) {
	f := talks(t, mac(3), nth(0))
	for _, x := range []struct {
		r    api.Row
		want dpath.Outcome
	}{
		{bound(3, here, 6, 7), delivered(t, 3, 6, 6, f)}, {moving(3, here, 4, 6, 7), delivered(t, 3, 6, 6, f)}, {moved(3, here, 4, 6, 7), delivered(t, 3, 6, 6, f)},
		{bound(3, 4, 6, 7), sent(t, 4, 3, 6, 9, f)}, {moving(3, 4, here, 6, 7), sent(t, 4, 3, 6, 9, f)}, {moved(3, 4, here, 6, 7), sent(t, 4, 3, 6, 9, f)},
		{moving(3, 4, 7, 6, 7), sent(t, 4, 3, 6, 9, f)}, {moved(3, 4, 7, 6, 7), sent(t, 4, 3, 6, 9, f)}, {gone(3, 6, 7), dpath.Outcome{}},
		{bound(2, here, 6, 7), dpath.Outcome{}}, {with(mac(3), bound(2, here, 6, 7)), delivered(t, 2, 6, 6, f)}, {with(5, bound(3, here, 6, 7)), dpath.Outcome{}},
	} {
		met(t, here, x.r).guest(t, f, noon, 9, x.want)
		met(t, here).guest(t, f, noon, 9, dpath.Outcome{})
	}
}

// TestGuestNoRow: P16.2: without a row of its address a frame is dropped, whatever the chassis and the address are, also where there are others.
func TestGuestNoRow(t *testing.T) {
	for chassis := range 16 {
		for _, address := range []uint64{0, 1, mac(0), mac(3), api.MaxMAC} {
			f := talks(t, address, nth(0))
			l := &line{made(t, chassis, boot, life), boot, far, 0, 0}
			l.guest(t, f, noon, 1, dpath.Outcome{})
			l.hears(t, noon, ofRow(bound(9, chassis, 1, 1)))
			l.guest(t, f, noon, 1, dpath.Outcome{})
			l.hears(t, noon, ofRow(with(address, gone(3, 1, 1))))
			l.guest(t, f, noon, 1, dpath.Outcome{})
			l.tracks(t, 0)
		}
	}
}

// TestGuestFirstRow: P16.1, by 14: of two rows with the address the first one, by ports, that means something, in whichever order they came; and the rows of now.
func TestGuestFirstRow(t *testing.T) {
	f := talks(t, mac(3), nth(0))
	a, b := with(mac(3), bound(2, here, 6, 7)), with(mac(3), bound(8, 4, 5, 7))
	met(t, here, a, b).guest(t, f, noon, 9, delivered(t, 2, 6, 6, f))
	met(t, here, b, a).guest(t, f, noon, 9, delivered(t, 2, 6, 6, f))
	l := met(t, here, a, b)
	l.hears(t, noon, ofRow(with(mac(3), gone(2, 6, 8))))
	l.guest(t, f, noon, 9, sent(t, 4, 8, 5, 9, f))
	l.hears(t, noon, ofRow(with(mac(3), moved(8, here, 4, 6, 8))))
	l.guest(t, f, noon, 9, delivered(t, 8, 6, 6, f))
	l.hears(t, noon, ofRow(with(mac(4), bound(8, here, 6, 9))))
	l.guest(t, f, noon, 9, dpath.Outcome{})
}
