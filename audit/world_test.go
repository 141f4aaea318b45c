package audit_test

import (
	"fmt"
	"testing"

	"rutter/api"
	"rutter/audit"
	"rutter/world"
)

// begun is a new world of a span, with a few chassis and ports.
func begun(t testing.TB, span int) *world.World {
	t.Helper()
	w, e := world.New(span, life)
	ok(t, e)
	for n := range 4 {
		does(t, w, asks(api.AddChassis, 0, n))
		starts(t, w, n)
	}
	for _, port := range []int{3, 4, 5} {
		does(t, w, asks(api.AddPort, port, port%4))
	}
	return w
}

// isFine checks that a world is, and all that there is to it.
func isFine(t testing.TB, w *world.World, what string) {
	t.Helper()
	l := w.Events()
	if r, ok := audit.Twice(w); ok || r != (api.Row{}) {
		t.Fatalf("%s: two have %+v: %s", what, r, look(w))
	}
	if i, f := audit.Look(l...); i != -1 || f != nothing {
		t.Fatalf("%s: fault %d at %d: %+v", what, f, i, l[:i+1])
	}
	if !audit.Fine(w) {
		t.Fatalf("%s: not fine: %s", what, look(w))
	}
}

// TestWorldsAreFine: P21.2: worlds behind any calls, ticks, crashes, breaks, starts and steps, with letters and packets that are delivered, lost, doubled and turned about.
func TestWorldsAreFine(t *testing.T) {
	seen := map[string]int{}
	for seed := range 100 {
		c, w := chance(100+seed), begun(t, []int{3, span, 40, 200}[seed%4])
		for i := range 2000 {
			what, e := c.does(w, moods()[seed%3])
			if e == api.OK {
				seen[what]++
			} else {
				seen["error"]++
			}
			if i%20 == 0 {
				isFine(t, w, fmt.Sprintf("seed %d, deed %d", seed, i))
			}
		}
		isFine(t, w, fmt.Sprintf("seed %d", seed))
		twice(t, w, api.Row{}, false)
		fine(t, w, true)
		keeps(t, w.Events())
		begins(t, w.Events()[:min(len(w.Events()), 200)])
		for _, x := range w.Events() {
			seen[fmt.Sprintf("what %d kind %d done %d", x.What, x.Kind, x.Done)]++
		}
	}
	for k, n := range map[string]int{
		"call": 3000, "break": 50, "tick": 1000, "start": 300, "crash": 300, "step": 5000, "deliver": 20000, "drop": 1000, "double": 1000, "inject": 5000, "error": 5000,
		"what 0 kind 0 done 0": 100, "what 1 kind 0 done 0": 1000, "what 1 kind 0 done 1": 1000, "what 1 kind 0 done 2": 3000, "what 3 kind 0 done 0": 300,
		"what 2 kind 1 done 0": 300, "what 2 kind 1 done 1": 2000, "what 2 kind 1 done 2": 100, "what 2 kind 2 done 0": 30, "what 2 kind 2 done 1": 60,
	} {
		if seen[k] < n {
			t.Errorf("of %s too few: %d; %v", k, seen[k], seen)
		}
	}
}

// TestEachDeedIsFine: P21.2: as TestWorldsAreFine, from a new world on, behind each deed.
func TestEachDeedIsFine(t *testing.T) {
	for seed := range 30 {
		c, w := chance(seed), made(t)
		isFine(t, w, "a new world")
		for i := range 400 {
			what, e := c.does(w, mood{10, 20, 100})
			isFine(t, w, fmt.Sprintf("seed %d, deed %d, %s: %d", seed, i, what, e))
		}
	}
}

// FuzzWorlds: as TestWorldsAreFine: deeds of chance, from a number that the bytes tell; go test runs the seeds alone.
func FuzzWorlds(f *testing.F) {
	f.Add([]byte{}, 1)
	f.Add([]byte("what is done with a world"), span)
	f.Add([]byte{0, 7, 200, 9}, 1<<31)
	f.Fuzz(func(t *testing.T, l []byte, most int) {
		w, c := begun(t, 1+most&0xff), chance(len(l))
		for i, x := range l {
			c = c<<8 ^ chance(x) ^ c>>56
			c.does(w, moods()[i%3])
		}
		isFine(t, w, "at last")
		keeps(t, w.Events())
	})
}

// TestFullNetIsFine: P21.2: a net that has no more room, so that what is sent on is lost.
func TestFullNetIsFine(t *testing.T) {
	w := leaving(t)
	allCome(t, w)
	tells(t, w, 1, 2)
	for w.Len() < api.MaxFrames-20 {
		steps(t, w, nobody, 0, 1, 2, 3)
	}
	for range 9 {
		sends(t, w, 0, plainFrame(3))
		sends(t, w, 1, plainFrame(3))
		w.Double(w.Len() - 1)
		isFine(t, w, "it becomes full")
	}
	if w.Len() != api.MaxFrames || w.Lost() == 0 {
		t.Fatalf("%d under way, %d lost", w.Len(), w.Lost())
	}
	for w.Len() > 0 {
		ok(t, w.Deliver(w.Len()-1))
	}
	isFine(t, w, "all came")
	saw(t, w, 2, api.Forward, 1)
}

// TestFullFileIsFine: P21.2: a file that has no more room, so that nothing changes any more.
func TestFullFileIsFine(t *testing.T) {
	w, full := town(t), 0
	for i := 0; full < 100; i++ {
		if _, e := w.API(asks([]api.Op{api.Start, api.Commit, api.Commit}[i%3], 3, 1+i/3%2)); e == api.ErrFull {
			full++
		}
		if i%500 == 0 || full > 0 {
			tells(t, w, i%4, (i+1)%4)
			for n := range 4 {
				sends(t, w, n, plainFrame(3))
			}
			steps(t, w, 0, 1, 2, 3)
			allCome(t, w)
		}
	}
	isFine(t, w, "the file is full")
	if r := row(w, 3); r.Gen < 1000 {
		t.Fatalf("too few moves: %+v", r)
	}
	crashes(t, w, nobody)
	isFine(t, w, "the controller is down")
}
