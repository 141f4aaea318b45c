package agent_test

import (
	"testing"

	"rutter/api"
	"rutter/dpath"
	"rutter/ether"
	"rutter/session"
)

// TestStartedAnew: P16.2: an agent that was started anew delivers nothing of a port until it was told its row; letters to the boot ahead of it tell it nothing.
func TestStartedAnew(t *testing.T) {
	for _, chassis := range []int{0, here} {
		for port := range 32 {
			old := met(t, chassis, bound(port, chassis, 6, 7))
			f := talks(t, mac(port), nth(0))
			old.guest(t, f, noon, 1, delivered(t, port, 6, 6, f))
			a := &line{made(t, chassis, boot+1, life), boot + 1, far, 0, 0}
			p := normal(t, port, 1, f)
			p.To = chassis
			dropped := func() {
				t.Helper()
				a.has(t)
				a.guest(t, f, noon, 1, dpath.Outcome{})
				a.tunnelled(t, p, noon, dpath.Outcome{})
				a.tracks(t, 0)
			}
			dropped()
			for seq := range 3 {
				late := session.Letter{Mine: far, Peer: boot, Seq: 1 + seq, Body: body(t, ofRow(bound(port, chassis, 6, 7)))}
				if e := a.Take(letter(t, late), noon); e != api.OK {
					t.Fatalf("Take: %d", e)
				}
				dropped()
			}
			a.hears(t, noon, ofRow(bound((port+1)%32, chassis, 6, 7)))
			a.guest(t, f, noon, 1, dpath.Outcome{})
			a.hears(t, noon, ofRow(bound(port, chassis, 6, 7)))
			a.guest(t, f, noon, 1, delivered(t, port, 6, 6, f))
			a.tunnelled(t, p, noon, delivered(t, port, 6, 1, f))
		}
	}
}

// TestNotBelowStamp: P16.2: whatever row an agent has, what it delivers is of its own row, and not below the stamp, for all rows of few numbers.
func TestNotBelowStamp(t *testing.T) {
	for _, chassis := range []int{0, 1, 2} {
		for gen := 1; gen < 5; gen++ {
			for _, r := range []api.Row{
				bound(3, 0, gen, 7), bound(3, 1, gen, 7), moving(3, 0, 1, gen, 7), moving(3, 1, 2, gen, 7), moving(3, 2, 0, gen, 7),
				moved(3, 0, 1, gen, 7), moved(3, 1, 2, gen, 7), moved(3, 2, 0, gen, 7), gone(3, gen, 7), bound(2, 0, gen, 7),
			} {
				l := met(t, chassis, r)
				for n := range 2 * 16 * 4 * 2 {
					p := api.Packet{Kind: api.Kind(1 + n%2), Origin: n / 2 % 4, From: n / 8 % 4, To: chassis, Port: 2 + n/32%2, Gen: 1 + n/64, Frame: make([]byte, 14)}
					o, e := l.Tunnel(p, noon)
					if mayBe(p) != (e == api.OK) {
						t.Fatalf("%+v: %d", p, e)
					}
					may := mayBe(p) && r.Phase != api.Gone && r.Owner == chassis && r.Port == p.Port && p.Gen <= gen
					if may != (o.Kind == 1) || may && (o.Port != r.Port || o.Gen != gen || o.Stamp != p.Gen) {
						t.Fatalf("%+v by %+v: %+v", p, r, o)
					}
				}
			}
		}
	}
}

// TestAMove: P16.1: a port moves, as README.md tells it.
func TestAMove(t *testing.T) {
	at1, at2 := &line{made(t, 1, 5, 10), 5, 9, 0, 0}, &line{made(t, 2, 7, 10), 7, 9, 0, 0}
	row := func(x api.Row) api.Message { return ofRow(with(ether.MAC(3), x)) }
	if at1.Idle() || len(at1.Out()) != 1 {
		t.Errorf("Idle %v, out %x", at1.Idle(), at1.Out())
	}
	at1.hears(t, 20, row(bound(3, 1, 1, 1)))
	f := talks(t, ether.MAC(3), nth(0))
	at1.guest(t, f, 20, 1, delivered(t, 3, 1, 1, f))
	at1.tracks(t, 20, until(30, nth(0)))
	at2.hears(t, 21, row(moving(3, 1, 2, 1, 2)))
	at1.hears(t, 21, row(moving(3, 1, 2, 1, 2)))
	at2.announces(t, 22, rarp(t, ether.MAC(3)))
	at2.tells(t, 22, ofAwake(3, 2))
	at1.hears(t, 23, row(moved(3, 2, 1, 2, 3)))
	at2.hears(t, 23, row(moved(3, 2, 1, 2, 3)))
	flows := ofFlows(3, 3, until(30, nth(0)))
	at1.tells(t, 23, flows)
	at2.hears(t, 24, flows)
	at2.tracks(t, 24, until(30, nth(0)))
	p := api.Packet{Kind: api.Normal, Origin: 0, From: 0, To: 1, Port: 3, Gen: 1, ID: 2, Frame: raw(t, f)}
	o, e := at1.Tunnel(p, 25)
	if !same(o, onward(p, 2, 2)) || e != api.OK {
		t.Errorf("%+v, %d", o, e)
	}
	at2.tunnelled(t, o.Packet, 25, delivered(t, 3, 2, 2, f))
	if !at1.Idle() || !at2.Idle() {
		t.Errorf("Idle %v, %v", at1.Idle(), at2.Idle())
	}
}
