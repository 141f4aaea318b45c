package agent_test

import (
	"math"
	"testing"

	"rutter/agent"
	"rutter/api"
	"rutter/dpath"
	"rutter/session"
)

// fresh checks what a new agent of a boot tells: it has nothing, knows nobody, and its letter says so.
func fresh(t *testing.T, a *agent.Agent, boot int) {
	t.Helper()
	want := state{out: [][]byte{letter(t, session.Letter{Mine: boot})}}
	if got := stateOf(a); !got.equal(want) {
		t.Errorf("a new one: %+v; want %+v", got, want)
	}
}

// TestNew: P16.1: a chassis, a boot and a life, at each edge, and outside, with all else as it may be, and several wrong at once.
func TestNew(t *testing.T) {
	chassis := []int{math.MinInt, -2, -1, 0, 1, here, 14, 15, 16, 17, 1<<32 + 5, math.MaxInt}
	boots := []int{math.MinInt, -1, 0, 1, 2, boot, 1<<32 - 1, 1 << 32, 1<<32 + 1, math.MaxInt}
	lives := []int{math.MinInt, -1, 0, 1, 2, life, 1<<31 - 1, 1 << 31, 1<<31 + 1, math.MaxInt}
	right := 0
	for _, c := range chassis {
		for _, b := range boots {
			for _, n := range lives {
				a, e := agent.New(c, b, n)
				if c < 0 || c > 15 || b < 1 || b > 1<<32 || n < 1 || n > 1<<31 {
					if a != nil || e != api.ErrArg {
						t.Errorf("New %d %d %d: %v, %d; want an error", c, b, n, a, e)
					}
					continue
				}
				right++
				if a == nil || e != api.OK {
					t.Fatalf("New %d %d %d: %v, %d", c, b, n, a, e)
				}
				fresh(t, a, b)
			}
		}
	}
	if right != 5*5*5 {
		t.Errorf("%d were made", right)
	}
}

// TestNewChassis: P16.1: it is at the chassis that it was made of: what is there is delivered, what is elsewhere sent from there.
func TestNewChassis(t *testing.T) {
	f := api.Frame{Dst: mac(3), Src: 7}
	for c := range 16 {
		l := met(t, c, bound(3, c, 4, 1))
		l.guest(t, f, noon, 1, delivered(t, 3, 4, 4, f))
		other := (c + 1) % 16
		l = met(t, c, bound(3, other, 4, 1))
		want := sent(t, other, 3, 4, 1, f)
		want.Packet.Origin, want.Packet.From = c, c
		l.guest(t, f, noon, 1, want)
		x := want.Packet
		x.Origin, x.From, x.To = other, other, c
		l.tunnelled(t, x, noon, dpath.Outcome{})
	}
}

// TestNewBoot: P16.1: its letters are of its boot, and what comes is for that alone.
func TestNewBoot(t *testing.T) {
	for _, n := range []int{1, 2, 1<<32 - 1, 1 << 32} {
		a := made(t, here, n, life)
		for i, peer := range []int{n - 1, 0, n} {
			x := session.Letter{Mine: far + i, Peer: peer, Seq: 1, Body: body(t, ofRow(bound(3, here, 1, 1)))}
			if e := a.Take(letter(t, x), noon); e != api.OK {
				t.Fatalf("Take of %+v: %d", x, e)
			}
			want := session.Letter{Mine: n, Peer: far + i}
			if peer == n {
				want.Ack = 1
			}
			if out := a.Out(); len(out) != 1 || string(out[0]) != string(letter(t, want)) || len(a.Rows()) != want.Ack {
				t.Errorf("of boot %d: out %x, rows %+v; want %+v", n, out, a.Rows(), want)
			}
		}
	}
}

// TestNewLife: P16.1: a flow that is seen is tracked for its life.
func TestNewLife(t *testing.T) {
	for _, n := range []int{1, 2, 10, 1<<31 - 1, 1 << 31} {
		l := &line{made(t, here, boot, n), boot, far, 0, 0}
		l.hears(t, noon, ofRow(bound(3, here, 1, 1)))
		f := talks(t, mac(3), nth(0))
		l.guest(t, f, noon, 1, delivered(t, 3, 1, 1, f))
		l.tracks(t, noon+n-1, until(noon+n, nth(0)))
		l.tracks(t, noon+n)
	}
}

// TestNil: P1, rule 8: every call on a nil agent, at all arguments.
func TestNil(t *testing.T) {
	var a *agent.Agent
	p := normal(t, 3, 1, api.Frame{})
	for _, now := range append(rightTimes(), wrongTimes()...) {
		for _, b := range [][]byte{nil, {}, {1}, letter(t, session.Letter{Mine: 1})} {
			if e := a.Take(b, now); e != api.ErrArg {
				t.Errorf("Take: %d", e)
			}
		}
		for _, f := range []api.Frame{{}, {Type: -1}, rarp(t, mac(3))} {
			if o, e := a.Guest(f, now, 1); !same(o, dpath.Outcome{}) || e != api.ErrArg {
				t.Errorf("Guest: %+v, %d", o, e)
			}
		}
		for _, x := range []api.Packet{p, {}} {
			if o, e := a.Tunnel(x, now); !same(o, dpath.Outcome{}) || e != api.ErrArg {
				t.Errorf("Tunnel: %+v, %d", o, e)
			}
		}
		if l := a.Records(now); len(l) != 0 {
			t.Errorf("Records: %+v", l)
		}
	}
	if len(a.Out()) != 0 || len(a.Rows()) != 0 || a.Idle() {
		t.Errorf("%x %+v %v", a.Out(), a.Rows(), a.Idle())
	}
}

// TestZero: P1: nor does a call panic on an agent that New didn't make.
func TestZero(t *testing.T) {
	a := &agent.Agent{}
	if e := a.Take(letter(t, session.Letter{Mine: 1}), noon); e != api.ErrArg {
		t.Errorf("Take: %d", e)
	}
	for _, f := range []api.Frame{{}, {Type: -1}, rarp(t, mac(0)), talks(t, 0, nth(0))} {
		a.Guest(f, noon, 1)
	}
	p := normal(t, 0, 1, talks(t, 0, nth(0)))
	p.To = 0
	if o, e := a.Tunnel(p, noon); !same(o, dpath.Outcome{}) || e != api.OK {
		t.Errorf("Tunnel: %+v, %d", o, e)
	}
	if len(a.Out()) != 0 || len(a.Rows()) != 0 || len(a.Records(0)) != 0 || a.Idle() {
		t.Errorf("%x %+v %+v %v", a.Out(), a.Rows(), a.Records(0), a.Idle())
	}
}

// TestPromoted: P16.1, 'Ways': a session's calls are an agent's, too: what is pushed goes, and its Take and Out are the agent's own.
func TestPromoted(t *testing.T) {
	l := met(t, here)
	if l.Peer() != far || l.Len() != 0 {
		t.Errorf("Peer %d, Len %d", l.Peer(), l.Len())
	}
	for _, x := range []struct {
		size int
		e    api.Errno
	}{{0, api.ErrArg}, {1, api.OK}, {1000, api.OK}, {1001, api.ErrArg}} {
		if e := l.Push(make([]byte, x.size)); e != x.e {
			t.Errorf("Push of %d: %d", x.size, e)
		}
	}
	if n := l.Len(); n != 2 {
		t.Errorf("Len %d", n)
	}
	if got := l.bodies(t, noon); len(got) != 2 || len(got[0]) != 1 || len(got[1]) != 1000 {
		t.Errorf("bodies %x", got)
	}
}
