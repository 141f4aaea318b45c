package world_test

import (
	"slices"
	"testing"

	"rutter/api"
	"rutter/world"
)

// TestStart: P19.1: who is down is up then: each, once and again; all others stay as they are.
func TestStart(t *testing.T) {
	for _, who := range everyone() {
		w := town(t)
		for i := range 3 {
			if isUp(w, who) {
				crashes(t, w, who)
			}
			was, of := look(w), ofWho(w, who)
			starts(t, w, who)
			if got := ofWho(w, who); got == of {
				t.Errorf("%d, %d times: %s", who, i, got)
			}
			crashes(t, w, who)
			if got := look(w); got != was {
				t.Errorf("Start of %d: %s\n\nwas %s", who, got, was)
			}
		}
	}
}

// TestStartTwice: P19.1: who is up isn't started, and stays as he is.
func TestStartTwice(t *testing.T) {
	w := town(t)
	starts(t, w, 15)
	for _, who := range []int{nobody, 0, 1, 2, 3, 15} {
		stays(t, w, "Start", api.ErrTwice, func() api.Errno { return w.Start(who) })
		n := 0
		if who != nobody {
			n = boot(t, w, who)
		}
		crashes(t, w, who)
		starts(t, w, who)
		stays(t, w, "Start", api.ErrTwice, func() api.Errno { return w.Start(who) })
		if who != nobody && boot(t, w, who) != n+1 {
			t.Errorf("%d: boot %d behind %d", who, boot(t, w, who), n)
		}
	}
}

// TestNobodies: P19.1: numbers that are nobody's are an error of Start, Crash and Step.
func TestNobodies(t *testing.T) {
	w := town(t)
	crashes(t, w, nobody, 0)
	for _, who := range nobodies() {
		stays(t, w, "Start", api.ErrArg, func() api.Errno { return w.Start(who) })
		stays(t, w, "Crash", api.ErrArg, func() api.Errno { return w.Crash(who) })
		stays(t, w, "Step", api.ErrArg, func() api.Errno { return w.Step(who) })
	}
}

// TestAgentsBoot: P19.1: an agent's boot is how often it was started, whoever else was, and however it went.
func TestAgentsBoot(t *testing.T) {
	w, c, often := made(t, span, life), chance(3), [16]int{}
	for range 400 {
		n := c.below(16)
		if isUp(w, n) {
			crashes(t, w, n)
		} else {
			starts(t, w, n)
			often[n]++
		}
		for i := range 16 {
			if isUp(w, i) && boot(t, w, i) != often[i] {
				t.Fatalf("%d: boot %d; was started %d times", i, boot(t, w, i), often[i])
			}
		}
	}
	if slices.Min(often[:]) < 5 {
		t.Errorf("too few: %v", often)
	}
}

// TestAgentAnew: P19.1: an agent that is started anew has no rows, no flows, and knows nobody; it is told all again.
func TestAgentAnew(t *testing.T) {
	w := town(t)
	sends(t, w, 1, talk(t, mac(3), 9))
	if len(w.Agent(1).Records(noon)) != 1 {
		t.Fatalf("nothing is tracked: %s", look(w))
	}
	crashes(t, w, 1)
	starts(t, w, 1)
	if a := w.Agent(1); len(a.Rows())+len(a.Records(0)) != 0 || a.Idle() || len(a.Out()) != 1 {
		t.Errorf("anew: %s", look(w))
	}
	sends(t, w, 1, plainFrame(mac(3)))
	then(t, w, 1, world.Event{What: 1, Time: noon, Chassis: 1, ID: 2, Origin: 1, From: 1})
	rounds(t, w, 4)
	knows(t, w, 1, bound(3, 1, 1, 1), bound(4, 2, 1, 1))
	sends(t, w, 1, plainFrame(mac(3)))
	then(t, w, 2, world.Event{What: 1, Time: noon, Chassis: 1, ID: 3, Origin: 1, From: 1, Done: 1, Port: 3, Gen: 1, Stamp: 1})
}

// TestControllerAnew: P19.1: a controller that is started again is of the next boot, has the rows and chassis that it had, and knows nobody; all are told again.
func TestControllerAnew(t *testing.T) {
	w := each(t)
	for i := range 5 {
		rows, hosts := w.Ctl().Rows(), w.Ctl().Chassis()
		crashes(t, w, nobody)
		starts(t, w, nobody)
		decided(t, w, rows...)
		c := w.Ctl()
		if c.Boot() != 2+i || !slices.Equal(c.Chassis(), hosts) {
			t.Errorf("boot %d, %d; want %d, %d", c.Boot(), c.Chassis(), 2+i, hosts)
		}
		for n := range 4 {
			if c.Idle(n) || len(c.Out(n)) != 1 {
				t.Errorf("it knows %d: %s", n, look(w))
			}
		}
		rounds(t, w, 6)
		for n := range 4 {
			knows(t, w, n, rows...)
			if !c.Idle(n) {
				t.Errorf("%d isn't told: %s", n, look(w))
			}
		}
		does(t, w, adds(4+i))
		does(t, w, asks(api.AddPort, 20+i, 4+i))
	}
}
