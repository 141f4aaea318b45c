package world_test

import (
	"testing"

	"rutter/api"
)

// TestCrash: P19.1: who is up is down then: each; all others, and what is under way, stay as they are.
func TestCrash(t *testing.T) {
	for _, who := range everyone() {
		w := leaving(t)
		if !isUp(w, who) {
			starts(t, w, who)
		}
		steps(t, w, nobody, 0, 1, who)
		sends(t, w, 0, plainFrame(mac(3)))
		net, events, of := ofNet(w), len(w.Events()), map[int]string{}
		for _, n := range everyone() {
			of[n] = ofWho(w, n)
		}
		crashes(t, w, who)
		of[who] = "down"
		for _, n := range everyone() {
			if got := ofWho(w, n); got != of[n] {
				t.Errorf("Crash of %d: of %d %s; was %s", who, n, got, of[n])
			}
		}
		if got := ofNet(w); got != net || w.Now() != noon {
			t.Errorf("Crash of %d: %s; was %s", who, got, net)
		}
		then(t, w, events)
	}
}

// TestCrashDown: P19.1: who is down doesn't crash: each, at first, and when he crashed.
func TestCrashDown(t *testing.T) {
	w := made(t, span, life)
	for _, who := range everyone() {
		if isUp(w, who) {
			crashes(t, w, who)
		}
		stays(t, w, "Crash", api.ErrDown, func() api.Errno { return w.Crash(who) })
		starts(t, w, who)
		crashes(t, w, who)
		stays(t, w, "Crash", api.ErrDown, func() api.Errno { return w.Crash(who) })
	}
}

// TestCrashFile: P19.1: with the controller the file crashes, and keeps nothing of what is not safe; what is safe stays.
func TestCrashFile(t *testing.T) {
	w := each(t)
	f := fileOf(t, w)
	was := string(f.Bytes())
	f.Add([]byte("what is not safe")...)
	crashes(t, w, nobody)
	if got := string(f.Bytes()); got != was || f.Safe() != len(was) {
		t.Errorf("the file has %x, %d safe; want %x", got, f.Safe(), was)
	}
	starts(t, w, nobody)
	decided(t, w, bound(3, 1, 1, 1), moving(4, 2, 0, 1, 2), moved(5, 1, 0, 2, 3), gone(6, 1, 2))
}

// TestCrashAgentFile: P19.1: with an agent no file crashes.
func TestCrashAgentFile(t *testing.T) {
	w := each(t)
	f := fileOf(t, w)
	f.Add('x')
	was := f.Safe()
	crashes(t, w, 1)
	if n := len(f.Bytes()); n != was+1 || f.Safe() != was {
		t.Errorf("the file has %d bytes, %d safe", n, f.Safe())
	}
}

// TestCrashKeepsWhatWasTold: P19.1, T4: whatever was answered, or told, is there behind a crash, at any time of a move.
func TestCrashKeepsWhatWasTold(t *testing.T) {
	w := town(t)
	for i := range 3 {
		for _, x := range []api.Call{asks(api.Start, 3, 2), asks(api.Commit, 3, 0), asks(api.Commit, 3, 0), asks(api.Start, 3, 1), asks(api.Abort, 3, 0), asks(api.Start, 3, 1), asks(api.Commit, 3, 0), asks(api.Commit, 3, 0), asks(api.RemovePort, 3, 0), asks(api.AddPort, 3, 1)} {
			r := does(t, w, x)
			crashes(t, w, nobody)
			starts(t, w, nobody)
			if got := row(w.Ctl(), 3); got != r {
				t.Fatalf("round %d: behind %+v: %+v; want %+v", i, x, got, r)
			}
		}
	}
}
