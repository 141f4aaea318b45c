package world_test

import (
	"math"
	"slices"
	"testing"

	"rutter/api"
	"rutter/net"
	"rutter/session"
	"rutter/world"
)

// noPlaces are such as no net of so many items has.
func noPlaces(n int) []int {
	l := []int{math.MinInt, -1 << 32, -n - 1, -n, -2, -1, n, n + 1, 4096, 4097, 1 << 32, math.MaxInt}
	return slices.DeleteFunc(l, func(i int) bool { return i >= 0 && i < n })
}

// place is one of the net's calls: Deliver, Drop or Double.
type place struct {
	name string
	do   func(w *world.World, i int) api.Errno
}

func placeCalls() []place {
	return []place{
		{"Deliver", (*world.World).Deliver},
		{"Drop", (*world.World).Drop},
		{"Double", (*world.World).Double},
	}
}

// busy is a world with items of all kinds under way: letters up and down, and data; some go to those who are down.
func busy(t testing.TB) *world.World {
	t.Helper()
	w := leaving(t)
	does(t, w, adds(9))
	starts(t, w, 15)
	sends(t, w, 0, plainFrame(mac(3)))
	steps(t, w, nobody, 1, 15)
	sends(t, w, 0, plainFrame(mac(4)))
	sends(t, w, 3, talk(t, mac(3), 1))
	crashes(t, w, 2)
	steps(t, w, 0)
	return w
}

// TestNoPlace: P19.1: of places where there is no item the error is the net's, and nothing is done: of an empty net, of one with some, of a full one.
func TestNoPlace(t *testing.T) {
	for _, w := range []*world.World{made(t, span, life), town(t), busy(t), crowded(t, 0)} {
		was := look(w)
		for _, i := range noPlaces(w.Len()) {
			for _, x := range placeCalls() {
				if e := x.do(w, i); e != api.ErrNone {
					t.Errorf("%s(%d) of %d: %d", x.name, i, w.Len(), e)
				}
			}
			if x, e := w.At(i); x.Kind != 0 || x.Chassis != 0 || len(x.Bytes) > 0 || e != api.ErrNone {
				t.Errorf("At(%d) of %d: %v, %d", i, w.Len(), x, e)
			}
		}
		if got := look(w); got != was {
			t.Errorf("of places where there is nothing: %s; was %s", got, was)
		}
	}
}

// TestDrop: P19.1: the item at a place, the first, one between, the last one, goes, and nothing comes of it; it is not counted.
func TestDrop(t *testing.T) {
	n := busy(t).Len()
	for i := range n {
		w := busy(t)
		want, events := slices.Delete(items(w), i, i+1), len(w.Events())
		var was []string
		for _, who := range everyone() {
			was = append(was, ofWho(w, who))
		}
		if e := w.Drop(i); e != api.OK || w.Lost() != 0 {
			t.Errorf("Drop(%d): %d; %d were lost", i, e, w.Lost())
		}
		carries(t, w, want...)
		then(t, w, events)
		for j, who := range everyone() {
			if got := ofWho(w, who); got != was[j] {
				t.Errorf("Drop(%d): of %d: %s; was %s", i, who, got, was[j])
			}
		}
	}
}

// TestDouble: P19.1: one more like the item at a place is behind all others; of data that is told, with its chassis and ID, of letters it isn't.
func TestDouble(t *testing.T) {
	n := busy(t).Len()
	ids := map[int]int{} // of each chassis to which data goes, how often
	for i := range n {
		w := busy(t)
		ticks(t, w, 1)
		l, events := items(w), len(w.Events())
		if e := w.Double(i); e != api.OK || w.Lost() != 0 {
			t.Errorf("Double(%d): %d; %d were lost", i, e, w.Lost())
		}
		carries(t, w, append(l, l[i])...)
		if l[i].Kind != data {
			then(t, w, events)
			continue
		}
		id := 2 + ids[1] + ids[2]
		ids[l[i].Chassis]++
		then(t, w, events, when(noon+1, twice(l[i].Chassis, id)))
	}
	if ids[1] != 2 || ids[2] != 1 {
		t.Errorf("data to %v", ids)
	}
}

// TestDoubleForwarded: P19.1: data that was forwarded, and is doubled, has its ID still.
func TestDoubleForwarded(t *testing.T) {
	w := leaving(t)
	allCome(t, w)
	tells(t, w, 1)
	sends(t, w, 0, plainFrame(mac(3)))
	comes(t, w, 0)
	events := len(w.Events())
	for range 2 {
		if e := w.Double(0); e != api.OK {
			t.Fatalf("Double: %d", e)
		}
	}
	then(t, w, events, twice(2, 2), twice(2, 2))
}

// TestDoubleFull: P19.1: in a full net nothing is doubled, nor told, nor lost; when there is room it is.
func TestDoubleFull(t *testing.T) {
	w := crowded(t, 1)
	sends(t, w, 0, plainFrame(mac(3)))
	events := len(w.Events())
	for _, i := range []int{0, 2000, api.MaxFrames - 1} {
		if e := w.Double(i); e != api.ErrFull || w.Lost() != 0 || w.Len() != api.MaxFrames {
			t.Errorf("Double(%d): %d; %d were lost", i, e, w.Lost())
		}
	}
	then(t, w, events)
	w.Drop(0)
	if e := w.Double(api.MaxFrames - 2); e != api.OK {
		t.Errorf("Double: %d", e)
	}
	then(t, w, events, twice(1, 1))
}

// TestDeliver: P19.1: the item at a place, the first, one between, the last one, goes, and those behind it go up by one place.
func TestDeliver(t *testing.T) {
	n := busy(t).Len()
	for i := range n {
		w := busy(t)
		want := slices.Delete(items(w), i, i+1)
		comes(t, w, i)
		carries(t, w, want...)
		if w.Lost() != 0 {
			t.Errorf("%d were lost", w.Lost())
		}
	}
}

// hears checks that an item which comes does to who gets it what its bytes do to a like of it, of another world, and that all else stays.
func hears(t *testing.T, w, like *world.World, i int) {
	t.Helper()
	x, _ := w.At(i)
	who := x.Chassis
	if x.Kind == up {
		who = nobody
		like.Ctl().Take(x.Chassis, x.Bytes)
	} else {
		like.Agent(x.Chassis).Take(x.Bytes, like.Now())
	}
	comes(t, w, i)
	for _, n := range everyone() {
		if got, want := ofWho(w, n), ofWho(like, n); got != want {
			t.Fatalf("item %d, to %d: of %d: %s; want %s", i, who, n, got, want)
		}
	}
}

// TestDeliverLetters: P19.1: letters come: up to the controller, down to the chassis' agent, at NOW, in any order, also doubled, and late.
func TestDeliverLetters(t *testing.T) {
	c, ups, downs := chance(1), 0, 0
	for range 12 {
		w, like := peopled(t), peopled(t)
		for range 60 {
			who := one(&c, nobody, 0, 1, 2, 3)
			steps(t, w, who)
			if x := c.call(w.Ctl()); c.below(3) == 0 {
				w.API(x)
				like.API(x)
			}
			if c.below(6) == 0 {
				ticks(t, w, 1)
				ticks(t, like, 1)
			}
			for range c.below(6) {
				if w.Len() == 0 {
					break
				}
				i := c.below(w.Len())
				if x, _ := w.At(i); x.Kind == up {
					ups++
				} else {
					downs++
				}
				if c.below(4) == 0 {
					w.Double(i)
				}
				hears(t, w, like, i)
			}
		}
	}
	if ups < 100 || downs < 500 {
		t.Errorf("too few: %d up, %d down", ups, downs)
	}
}

// TestDeliverDown: P19.1: an item that comes to who is down is gone, and is not counted; nothing comes of it, also when that is up again.
func TestDeliverDown(t *testing.T) {
	w := busy(t)
	crashes(t, w, nobody, 0, 1, 3)
	events := len(w.Events())
	for n := w.Len(); n > 0; n-- {
		was := items(w)
		i := n / 2
		comes(t, w, i)
		carries(t, w, slices.Delete(was, i, i+1)...)
		if w.Lost() != 0 {
			t.Errorf("%d were lost", w.Lost())
		}
	}
	then(t, w, events)
	starts(t, w, nobody, 0, 1, 2, 3)
	then(t, w, events)
	decided(t, w, moving(3, 1, 2, 1, 2), bound(4, 2, 1, 1))
	for n := range 4 {
		knows(t, w, n)
	}
}

// TestDeliverToNobody: P19.1: of a chassis that the controller doesn't have nothing is heard; the item goes.
func TestDeliverToNobody(t *testing.T) {
	w := town(t)
	starts(t, w, 15)
	steps(t, w, 15)
	was := ofWho(w, nobody)
	comes(t, w, 0)
	carries(t, w)
	if got := ofWho(w, nobody); got != was || w.Lost() != 0 {
		t.Errorf("%s; was %s", got, was)
	}
	does(t, w, asks(api.Start, 3, 2))
	rounds(t, w, 2)
	sends(t, w, 2, wake(t, 3))
	steps(t, w, 2)
	does(t, w, asks(api.Abort, 3, 0))
	does(t, w, asks(api.RemovePort, 4, 0))
	does(t, w, api.Call{Op: api.RemoveChassis, Chassis: 2})
	events := len(w.Events())
	comes(t, w, 0)
	then(t, w, events)
}

// TestAwakeDoubled: P19.1: a letter that comes twice, or more often, is handed out once.
func TestAwakeDoubled(t *testing.T) {
	w := leaving(t)
	for range 3 {
		w.Double(0)
	}
	steps(t, w, 2)
	allCome(t, w)
	then(t, w, 1, awake(2, 3, 2))
}

// TestAwakeTurnedAbout: P19.1: of letters that are turned about the one whose turn it isn't does nothing; it goes again.
func TestAwakeTurnedAbout(t *testing.T) {
	w := town(t)
	does(t, w, asks(api.Start, 3, 0))
	does(t, w, asks(api.Start, 4, 0))
	rounds(t, w, 2)
	sends(t, w, 0, wake(t, 4))
	sends(t, w, 0, wake(t, 3))
	steps(t, w, 0)
	comes(t, w, 1)
	then(t, w, 2)
	comes(t, w, 0)
	then(t, w, 2, awake(0, 4, 2))
	steps(t, w, 0)
	allCome(t, w)
	then(t, w, 2, awake(0, 4, 2), awake(0, 3, 2))
}

// TestAwakeOfAnElderBoot: P19.1: a letter of an agent's elder boot, that comes behind one of its next boot, does nothing.
func TestAwakeOfAnElderBoot(t *testing.T) {
	w := leaving(t)
	crashes(t, w, 2)
	starts(t, w, 2)
	steps(t, w, 2)
	comes(t, w, 1)
	comes(t, w, 0)
	then(t, w, 1)
	decided(t, w, moving(3, 1, 2, 1, 2), bound(4, 2, 1, 1))
	w = leaving(t)
	crashes(t, w, 2)
	starts(t, w, 2)
	steps(t, w, 2)
	allCome(t, w)
	then(t, w, 1, awake(2, 3, 2))
}

// TestAwakeToAnElderBoot: P19.1: a letter to a controller's elder boot is not handed out by the next one; the agent tells it again.
func TestAwakeToAnElderBoot(t *testing.T) {
	w := leaving(t)
	crashes(t, w, nobody)
	starts(t, w, nobody)
	comes(t, w, 0)
	then(t, w, 1)
	rounds(t, w, 3)
	then(t, w, 1, awake(2, 3, 2))
}

// TestDownToAnElderBoot: P19.1: an agent that was started anew isn't told anything by letters to its elder boot.
func TestDownToAnElderBoot(t *testing.T) {
	w := town(t)
	does(t, w, asks(api.Start, 3, 2))
	steps(t, w, nobody)
	crashes(t, w, 1)
	starts(t, w, 1)
	allCome(t, w)
	knows(t, w, 1)
	knows(t, w, 2, moving(3, 1, 2, 1, 2), bound(4, 2, 1, 1))
}

// TestDownOfAnElderBoot: P19.1: nor is one told anything by a letter of the controller's elder boot, behind one of its next boot.
func TestDownOfAnElderBoot(t *testing.T) {
	w := town(t)
	does(t, w, asks(api.Start, 3, 2))
	steps(t, w, nobody)
	late := w.Len()
	crashes(t, w, nobody)
	starts(t, w, nobody)
	steps(t, w, nobody)
	for w.Len() > late {
		comes(t, w, late)
	}
	allCome(t, w)
	for n := range 4 {
		knows(t, w, n, bound(3, 1, 1, 1), bound(4, 2, 1, 1))
	}
}

// TestNoMessage: P19.1: of a body that is no message, or none that an agent tells, nothing comes, and what is behind it is heard.
func TestNoMessage(t *testing.T) {
	w := town(t)
	does(t, w, asks(api.Start, 3, 2))
	rounds(t, w, 2)
	for _, b := range []string{"x", "\x02", "\x02\x03\x00\x00\x00\x00\x00\x02\x00", "\x02\x20\x00\x00\x00\x00\x00\x02", "\x02\x03\x00\x00\x00\x00\x00\x00", "\x04\x03", string(make([]byte, session.MostBody))} {
		if e := w.Agent(2).Push([]byte(b)); e != api.OK {
			t.Fatalf("Push: %d", e)
		}
	}
	sends(t, w, 2, wake(t, 3))
	steps(t, w, 2)
	allCome(t, w)
	then(t, w, 1, awake(2, 3, 2))
}

// TestWrongBytes: P19.1, P1: items whose bytes are none's, whoever put them there: they go, nothing comes of them, and nothing panics.
func TestWrongBytes(t *testing.T) {
	w := town(t)
	f := plainFrame(mac(3))
	good := packet(t, normal(t, 0, 1, 3, 1, 9, f))
	for _, there := range []bool{true, false} {
		for kind := range 3 {
			for n := range 4 {
				for _, b := range [][]byte{nil, {0}, []byte("none's"), make([]byte, 24), good[:len(good)-1], append(slices.Clone(good), 0), make([]byte, net.MostBytes)} {
					netOf(t, w).Put(net.Item{Kind: kind, Chassis: n, Bytes: b})
				}
			}
		}
		// A packet that goes to another chassis is none of this one's.
		netOf(t, w).Put(net.Item{Kind: data, Chassis: 2, Bytes: good})
		if !there {
			crashes(t, w, nobody, 0, 1, 2, 3)
		}
		var was []string
		for _, who := range everyone() {
			was = append(was, ofWho(w, who))
		}
		allCome(t, w)
		for i, who := range everyone() {
			if got := ofWho(w, who); got != was[i] {
				t.Errorf("of %d: %s; was %s", who, got, was[i])
			}
		}
	}
	happened(t, w)
}
