package agent_test

import (
	"math"
	"testing"

	"rutter/api"
	"rutter/dpath"
)

// TestTunnel: P16.1, by 15: what becomes of packets of both kinds by rows of each phase, of the owner and of others, and without one; below, at and above the stamp.
func TestTunnel(t *testing.T) {
	f := talks(t, mac(3), nth(0))
	for _, gen := range []int{1, 5, 6, 7, 1 << 32} {
		n, w := normal(t, 3, gen, f), forwarded(t, 3, gen, f)
		for _, r := range []api.Row{bound(3, here, 6, 7), moving(3, here, 4, 6, 7), moved(3, here, 4, 6, 7), with(1, bound(3, here, 6, 7))} {
			want := dpath.Outcome{}
			if gen <= 6 {
				want = delivered(t, 3, 6, gen, f)
			}
			met(t, here, r).tunnelled(t, n, noon, want)
			met(t, here, r).tunnelled(t, w, noon, want)
		}
		for _, r := range []api.Row{bound(3, 7, 6, 7), moving(3, 7, here, 6, 7), moved(3, 7, 8, 6, 7), gone(3, 6, 7), bound(2, here, 6, 7), with(mac(3), bound(2, here, 6, 7))} {
			met(t, here, r).tunnelled(t, n, noon, dpath.Outcome{})
			met(t, here, r).tunnelled(t, w, noon, dpath.Outcome{})
		}
		want := dpath.Outcome{}
		if gen <= 6 {
			want = onward(n, 7, 6)
		}
		met(t, here, moved(3, 7, here, 6, 7)).tunnelled(t, n, noon, want)
		met(t, here, moved(3, 7, here, 6, 7)).tunnelled(t, w, noon, dpath.Outcome{})
		met(t, here, moved(3, 4, here, 6, 7)).tunnelled(t, n, noon, dpath.Outcome{}) // it would go back to where it came from
		met(t, here).tunnelled(t, n, noon, dpath.Outcome{})
		met(t, here).tunnelled(t, w, noon, dpath.Outcome{})
	}
}

// TestTunnelWrong: P16.1: packets that may not be, or go to another chassis, and times: nothing is done.
func TestTunnelWrong(t *testing.T) {
	start := func() *line { return met(t, here, bound(3, here, 6, 7), moved(4, 7, here, 6, 7)) }
	wrong := func(p api.Packet, now int) {
		t.Helper()
		unchanged(t, start, func(l *line) {
			if o, e := l.Tunnel(p, now); !same(o, dpath.Outcome{}) || e != api.ErrArg {
				t.Fatalf("%+v at %d: %+v, %d; want an error", p, now, o, e)
			}
		})
	}
	f := talks(t, mac(3), nth(0))
	for _, good := range []api.Packet{normal(t, 3, 6, f), forwarded(t, 3, 6, f), normal(t, 4, 6, f)} {
		for _, now := range wrongTimes() {
			wrong(good, now)
			wrong(api.Packet{}, now)
		}
		for _, to := range []int{math.MinInt, -1, 0, 1, here + 1, 15, 16, math.MaxInt} {
			p := good
			p.To = to
			wrong(p, noon)
		}
		for i := range 12 {
			p := good
			switch i {
			case 0:
				p.Kind = 0
			case 1:
				p.Kind = 3
			case 2:
				p.Origin = here
			case 3:
				p.From = here
			case 4:
				p.Port = 32
			case 5:
				p.Port = -1
			case 6:
				p.Gen = 0
			case 7:
				p.Gen = 1<<32 + 1
			case 8:
				p.ID = -1
			case 9:
				p.ID = 1<<40 + 1
			case 10:
				p.Frame = p.Frame[:13]
			case 11:
				p.Frame = make([]byte, 1515)
			}
			wrong(p, noon)
		}
		wrong(api.Packet{To: here}, noon)
	}
}

// TestTunnelTimes: P16.1: a packet is looked at, at each time that there can be.
func TestTunnelTimes(t *testing.T) {
	for _, now := range rightTimes() {
		l := met(t, here, bound(3, here, 6, 7), moved(4, 7, here, 6, 7))
		l.bodies(t, noon)
		f, g := talks(t, mac(3), nth(0)), talks(t, mac(4), nth(1))
		l.tunnelled(t, normal(t, 3, 6, f), now, delivered(t, 3, 6, 6, f))
		p := normal(t, 4, 6, g)
		l.tunnelled(t, p, now, onward(p, 7, 6))
		l.tracks(t, 0, twoSeen(now)...)
	}
}

// TestTunnelAnnounces: P16.1: a packet whose frame announces an address that is awaited is a packet as any other.
func TestTunnelAnnounces(t *testing.T) {
	for _, f := range announcements(t, mac(2)) {
		l := met(t, here, moving(2, 4, here, 6, 7), bound(3, here, 6, 7))
		l.tunnelled(t, normal(t, 3, 6, f), noon, delivered(t, 3, 6, 6, f))
		l.tunnelled(t, normal(t, 2, 6, f), noon, dpath.Outcome{})
		l.tells(t, noon)
		l.anew(t, noon)
		l.tells(t, noon)
	}
}

// TestTunnelShort: P16.1: packets whose frames are the shortest and the longest ones.
func TestTunnelShort(t *testing.T) {
	l := met(t, here, bound(3, here, 6, 7))
	for _, n := range []int{0, 1, 1499, 1500} {
		for _, ty := range []int{0, api.TypeIPv4, api.TypeARP, 65535} {
			f := api.Frame{Dst: api.MaxMAC, Src: api.MaxMAC, Type: ty, Load: make([]byte, n)}
			l.tunnelled(t, normal(t, 3, 6, f), noon, delivered(t, 3, 6, 6, f))
		}
	}
	l.tracks(t, 0)
}
