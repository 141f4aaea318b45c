package ctl_test

import (
	"slices"
	"testing"

	"rutter/agent"
	"rutter/api"
	"rutter/arp"
	"rutter/ctl"
	"rutter/disk"
)

// passes lets a controller and the agent of a chassis have each other's letters, at a time.
func passes(t *testing.T, c *ctl.Ctl, chassis int, a *agent.Agent, now int) {
	t.Helper()
	for _, b := range a.Out() {
		if _, e := c.Take(chassis, b); e != api.OK {
			t.Fatalf("up from %d: %d", chassis, e)
		}
	}
	for _, b := range c.Out(chassis) {
		if e := a.Take(b, now); e != api.OK {
			t.Fatalf("down to %d: %d", chassis, e)
		}
	}
}

// TestAWay: P17.1: a port's way, over letters to agents and back, which README.md tells, too.
func TestAWay(t *testing.T) {
	f, _ := disk.New(1 << 20)
	c, e := ctl.Open(f, 10, 100)
	if e != api.OK || c.Boot() != 1 {
		t.Fatal(e)
	}
	d := &desk{c, f}
	d.does(t, api.Call{Op: api.AddChassis, Chassis: 1}, api.Row{})
	d.does(t, api.Call{Op: api.AddChassis, Chassis: 2}, api.Row{})
	d.does(t, api.Call{Op: api.AddPort, Port: 3, Chassis: 1, MAC: mac(3)}, bound(3, 1, 1, 1))
	d.refuses(t, api.Call{Op: api.AddPort, Port: 4, Chassis: 9, MAC: mac(4)}, api.ErrNone)
	a, _ := agent.New(2, 1, 10)
	passes(t, c, 2, a, 100)
	if got := a.Rows(); !slices.Equal(got, c.Rows()) || c.Idle(2) {
		t.Fatalf("%+v, %v", got, c.Idle(2))
	}
	passes(t, c, 2, a, 100)
	if !c.Idle(2) {
		t.Fatal("it isn't acknowledged")
	}
	d.does(t, api.Call{Op: api.Start, Port: 3, Chassis: 2}, moving(3, 1, 2, 1, 2))
	passes(t, c, 2, a, 101)
	up, _ := arp.RARP(mac(3))
	if _, e := a.Guest(up, 102, 1); e != api.OK {
		t.Fatal(e)
	}
	d.ticks(t, 102)
	if m, e := c.Take(2, a.Out()[0]); m.Kind != 2 || m.Port != 3 || m.Ver != 2 || e != api.OK {
		t.Fatalf("%+v, %d", m, e)
	}
	d.does(t, api.Call{Op: api.Query, Port: 3}, at(102, moved(3, 2, 1, 2, 3)))
	d.ticks(t, 112)
	d.has(t, at(112, bound(3, 2, 2, 4)))
	if e := c.Half(api.Call{Op: api.RemovePort, Port: 3}); e != api.OK {
		t.Fatal(e)
	}
	if _, e := c.Do(api.Call{Op: api.Query, Port: 3}); e != api.ErrHalt {
		t.Fatal(e)
	}
	f.Crash(34)
	d = &desk{opened(t, f, 113), f}
	d.has(t, at(112, bound(3, 2, 2, 4)))
	if d.Boot() != 2 {
		t.Fatalf("boot %d", d.Boot())
	}
	passes(t, d.Ctl, 2, a, 113)
	passes(t, d.Ctl, 2, a, 113)
	passes(t, d.Ctl, 2, a, 113)
	if got := a.Rows(); !slices.Equal(got, d.Rows()) || !d.Idle(2) || !a.Idle() {
		t.Fatalf("%+v, %v, %v", got, d.Idle(2), a.Idle())
	}
}
