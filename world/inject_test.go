package world_test

import (
	"math"
	"testing"

	"rutter/api"
	"rutter/world"
)

// rightFrames are frames that may be, also at the edges of what each has; none of them goes anywhere, or announces.
func rightFrames() []api.Frame {
	l := []api.Frame{{}, plainFrame(1), {Dst: api.MaxMAC, Src: api.MaxMAC, Type: 65535, Load: make([]byte, api.MaxLoad)}}
	for _, n := range []int{0, 1, 27, 28, 46, 255, 256, api.MaxLoad - 1, api.MaxLoad} {
		l = append(l, api.Frame{Dst: 5, Src: 6, Type: api.TypeIPv4, Load: make([]byte, n)})
	}
	return l
}

// wrongFrames are frames that may not be, each by one thing, and by all; those of the others' would go to port 3.
func wrongFrames() []api.Frame {
	l := []api.Frame{{Dst: 1 << 48, Src: 1 << 48, Type: -1, Load: make([]byte, api.MaxLoad+1)}}
	for _, a := range []uint64{1 << 48, 1<<48 + 1, 1<<48 + mac(3), 1 << 63, 1<<64 - 1} {
		l = append(l, api.Frame{Dst: a, Src: 1}, api.Frame{Dst: mac(3), Src: a})
	}
	for _, n := range []int{math.MinInt, -1 << 32, -1, 65536, 65537, 1 << 32, 1<<32 + 2048, math.MaxInt} {
		l = append(l, api.Frame{Dst: mac(3), Type: n})
	}
	for _, n := range []int{api.MaxLoad + 1, api.MaxLoad + 2, 1514, 2000, 65536} {
		l = append(l, api.Frame{Dst: mac(3), Load: make([]byte, n)})
	}
	return l
}

// TestInject: P19.1: what is injected has IDs one by one, from 1 on, whoever injects it, and whatever becomes of it.
func TestInject(t *testing.T) {
	w := town(t)
	starts(t, w, 15)
	want := 0
	for _, n := range []int{0, 15, 1, 3, 2, 0} {
		for _, f := range append(rightFrames(), plainFrame(mac(3)), plainFrame(mac(4)), talk(t, mac(3), 1), wake(t, 3)) {
			want++
			if id := sends(t, w, n, f); id != want {
				t.Fatalf("Inject at %d: the ID %d; want %d", n, id, want)
			}
			if l := w.Events(); len(l) != want || l[want-1].ID != want || l[want-1].Chassis != n {
				t.Fatalf("events %+v", l[max(0, len(l)-2):])
			}
		}
	}
}

// TestInjectWrongChassis: P19.1: a chassis that can't be, ahead of all other errors; it takes no ID.
func TestInjectWrongChassis(t *testing.T) {
	w := town(t)
	for _, n := range wrongChassis() {
		for _, f := range []api.Frame{plainFrame(mac(3)), wrongFrames()[0]} {
			stays(t, w, "Inject", api.ErrArg, func() api.Errno { return noID(t, w, n, f) })
		}
	}
	if id := sends(t, w, 0, plainFrame(1)); id != 1 {
		t.Errorf("the ID %d", id)
	}
}

// noID is the error of a frame that is not injected.
func noID(t testing.TB, w *world.World, chassis int, f api.Frame) api.Errno {
	t.Helper()
	id, e := w.Inject(chassis, f)
	if id != 0 {
		t.Errorf("Inject at %d: the ID %d beside the error %d", chassis, id, e)
	}
	return e
}

// TestInjectDown: P19.1: a chassis whose agent is down, ahead of what is wrong with a frame; it takes no ID.
func TestInjectDown(t *testing.T) {
	w := town(t)
	crashes(t, w, 1)
	for _, n := range []int{1, 4, 15} {
		for _, f := range []api.Frame{plainFrame(mac(3)), wake(t, 3), wrongFrames()[0]} {
			stays(t, w, "Inject", api.ErrDown, func() api.Errno { return noID(t, w, n, f) })
		}
	}
	starts(t, w, 1)
	if id := sends(t, w, 1, plainFrame(1)); id != 1 {
		t.Errorf("the ID %d", id)
	}
}

// TestInjectWrongFrame: P19.1: a frame that may not be: the agent's error, and it takes no ID.
func TestInjectWrongFrame(t *testing.T) {
	w := town(t)
	for i, f := range wrongFrames() {
		stays(t, w, "Inject", api.ErrArg, func() api.Errno { return noID(t, w, i%4, f) })
		if id := sends(t, w, 0, plainFrame(1)); id != i+1 {
			t.Errorf("behind %d frames: the ID %d", i, id)
		}
	}
}

// TestInjectWithoutController: P19.1: guests' frames go where the agents know, also when the controller is down.
func TestInjectWithoutController(t *testing.T) {
	w := town(t)
	crashes(t, w, nobody)
	f := plainFrame(mac(4))
	sends(t, w, 0, f)
	travels(t, w, normal(t, 0, 2, 4, 1, 1, f))
	allCome(t, w)
	happened(t, w, sent(entered(0, 1), 2, 4, 1), delivered(came(2, 1, 0, 0), 4, 1, 1))
}

// TestInjectAnnounces: P19.1: what a guest announces, where its port moves to, is told to the controller, and dropped; elsewhere it goes as any frame.
func TestInjectAnnounces(t *testing.T) {
	for n := range 4 {
		w := town(t)
		does(t, w, asks(api.Start, 3, 2))
		rounds(t, w, 2)
		sends(t, w, n, wake(t, 3))
		then(t, w, 0, entered(n, 1))
		carries(t, w)
		if got := w.Agent(n).Idle(); got != (n != 2) {
			t.Errorf("%d: Idle is %v", n, got)
		}
		rounds(t, w, 6)
		if r := row(w.Ctl(), 3); (r == moved(3, 2, 1, 2, 3)) != (n == 2) {
			t.Errorf("%d: %+v", n, r)
		}
	}
}

// TestInjectAnnouncesToAPort: P19.1: an announcement that goes to a port's address is that port's where its own doesn't move to.
func TestInjectAnnouncesToAPort(t *testing.T) {
	w := town(t)
	does(t, w, asks(api.Start, 3, 2))
	rounds(t, w, 2)
	f := wake(t, 3)
	f.Dst = mac(4)
	sends(t, w, 1, f)
	then(t, w, 0, sent(entered(1, 1), 2, 4, 1))
	travels(t, w, normal(t, 1, 2, 4, 1, 1, f))
	sends(t, w, 2, f)
	then(t, w, 1, entered(2, 2))
}

// TestInjectAtNow: P19.1: what a guest sends is tracked from NOW on, where it is sent, and where it comes.
func TestInjectAtNow(t *testing.T) {
	w := town(t)
	ticks(t, w, 5)
	sends(t, w, 0, talk(t, mac(3), 8))
	ticks(t, w, 6)
	allCome(t, w)
	for n, until := range []int{noon + 5 + life, noon + 11 + life} {
		if l := w.Agent(n).Records(w.Now()); len(l) != 1 || l[0].Until != until || l[0].Flow.Dst != 8 {
			t.Errorf("%d has %+v; want until %d", n, l, until)
		}
	}
}

// TestInjectFull: P19.1: what is sent, and has no room in the net, is lost, and counted; what became of it is told all the same.
func TestInjectFull(t *testing.T) {
	w := crowded(t, 1)
	f := plainFrame(mac(3))
	for i := range 3 {
		sends(t, w, 0, f)
		then(t, w, i, sent(entered(0, i+1), 1, 3, 1))
		if w.Lost() != i || w.Len() != api.MaxFrames {
			t.Errorf("%d were lost", w.Lost())
		}
	}
	sends(t, w, 1, f)
	then(t, w, 3, delivered(entered(1, 4), 3, 1, 1))
	if w.Lost() != 2 {
		t.Errorf("%d were lost", w.Lost())
	}
	if x, _ := w.At(api.MaxFrames - 1); !same(x, of(data, 1, packet(t, normal(t, 0, 1, 3, 1, 1, f)))[0]) {
		t.Errorf("the last one is %v", x)
	}
}

// TestForwardFull: P19.1: a packet that comes makes room for what it is forwarded as, also in a full net.
func TestForwardFull(t *testing.T) {
	w := leaving(t)
	allCome(t, w)
	tells(t, w, 1, 2)
	sends(t, w, 0, plainFrame(mac(3)))
	for w.Len() < api.MaxFrames {
		steps(t, w, 3)
	}
	comes(t, w, 0)
	if w.Len() != api.MaxFrames || w.Lost() != 0 {
		t.Errorf("%d are under way, %d were lost", w.Len(), w.Lost())
	}
	events := len(w.Events())
	comes(t, w, api.MaxFrames-1)
	then(t, w, events, delivered(came(2, 2, 0, 1), 3, 2, 2))
}
