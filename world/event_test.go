package world_test

import (
	"testing"

	"rutter/api"
	"rutter/world"
)

// Events of each what, at noon: an awake port, a guest's frame and a packet that were looked at, and data that was doubled.
func awake(chassis, port, ver int) world.Event {
	return world.Event{What: 0, Time: noon, Chassis: chassis, Port: port, Ver: ver}
}

func entered(chassis, id int) world.Event {
	return world.Event{What: 1, Time: noon, Chassis: chassis, ID: id, Origin: chassis, From: chassis}
}

func came(chassis, id, origin, from int) world.Event {
	x := world.Event{What: 2, Time: noon, Chassis: chassis, Kind: api.Normal, ID: id, Origin: origin, From: from}
	if origin != from {
		x.Kind = api.Forward
	}
	return x
}

func twice(chassis, id int) world.Event {
	return world.Event{What: 3, Time: noon, Chassis: chassis, ID: id}
}

// delivered is an event of what was delivered; sent of what was sent; when one at another time.
func delivered(x world.Event, port, gen, stamp int) world.Event {
	x.Done, x.Port, x.Gen, x.Stamp = 1, port, gen, stamp
	return x
}

func sent(x world.Event, to, port, gen int) world.Event {
	x.Done, x.To, x.Port, x.Gen = 2, to, port, gen
	return x
}

func when(now int, x world.Event) world.Event {
	x.Time = now
	return x
}

// normal is a packet with a frame, as a chassis sends it; onward is it, forwarded.
func normal(t testing.TB, from, to, port, gen, id int, f api.Frame) api.Packet {
	t.Helper()
	return api.Packet{Kind: api.Normal, Origin: from, From: from, To: to, Port: port, Gen: gen, ID: id, Frame: raw(t, f)}
}

func onward(p api.Packet, to, gen int) api.Packet {
	p.Kind, p.From, p.To, p.Gen = api.Forward, p.To, to, gen
	return p
}

// travels checks that just these packets are under way.
func travels(t testing.TB, w *world.World, l ...api.Packet) {
	t.Helper()
	for i, x := range items(w) {
		if i >= len(l) || !same(x, of(data, l[i].To, packet(t, l[i]))[0]) {
			t.Fatalf("the net has %v; want %+v", items(w), l)
		}
	}
	if w.Len() != len(l) {
		t.Fatalf("the net has %v; want %+v", items(w), l)
	}
}

// TestDeliveredAtHome: P19.1: a guest's frame to a port that is where the guest is.
func TestDeliveredAtHome(t *testing.T) {
	w := town(t)
	for i, f := range []api.Frame{plainFrame(mac(3)), talk(t, mac(3), 1)} {
		sends(t, w, 1, f)
		then(t, w, i, delivered(entered(1, i+1), 3, 1, 1))
		carries(t, w)
	}
}

// TestSentAndDelivered: P19.1: a guest's frame to a port elsewhere: it is sent, as the packet that the net has, and delivered there, when that comes.
func TestSentAndDelivered(t *testing.T) {
	for _, from := range []int{0, 3} {
		for i, f := range []api.Frame{plainFrame(mac(4)), talk(t, mac(4), 1), {Dst: mac(4)}, {Dst: mac(4), Load: make([]byte, api.MaxLoad)}} {
			w := town(t)
			for range i {
				sends(t, w, from, plainFrame(99))
			}
			sends(t, w, from, f)
			then(t, w, i, sent(entered(from, i+1), 2, 4, 1))
			travels(t, w, normal(t, from, 2, 4, 1, i+1, f))
			ticks(t, w, 7)
			comes(t, w, 0)
			then(t, w, i+1, when(noon+7, delivered(came(2, i+1, from, from), 4, 1, 1)))
			carries(t, w)
		}
	}
}

// TestDroppedAtHome: P19.1: a guest's frame that goes nowhere: of what is delivered, or sent, nothing is told.
func TestDroppedAtHome(t *testing.T) {
	w := town(t)
	ticks(t, w, 1)
	starts(t, w, 15)
	sends(t, w, 0, plainFrame(mac(9)))
	sends(t, w, 15, plainFrame(mac(3)))
	sends(t, w, 15, wake(t, 3))
	happened(t, w, when(noon+1, entered(0, 1)), when(noon+1, entered(15, 2)), when(noon+1, entered(15, 3)))
	carries(t, w)
}

// TestDroppedElsewhere: P19.1: a packet that goes no further, since who gets it was started anew, and has no rows.
func TestDroppedElsewhere(t *testing.T) {
	w := town(t)
	sends(t, w, 0, plainFrame(mac(3)))
	crashes(t, w, 1)
	starts(t, w, 1)
	comes(t, w, 0)
	then(t, w, 1, came(1, 1, 0, 0))
	carries(t, w)
}

// TestForwarded: P19.1, example 2: a packet that an elder row sent to where the port was is sent on to where it is, and delivered there.
func TestForwarded(t *testing.T) {
	w := leaving(t)
	allCome(t, w)
	tells(t, w, 1, 2)
	knows(t, w, 0, moving(3, 1, 2, 1, 2), bound(4, 2, 1, 1))
	knows(t, w, 1, moved(3, 2, 1, 2, 3), bound(4, 2, 1, 1))
	f := talk(t, mac(3), 5)
	p := normal(t, 0, 1, 3, 1, 2, f)
	sends(t, w, 0, f)
	travels(t, w, p)
	comes(t, w, 0)
	travels(t, w, onward(p, 2, 2))
	ticks(t, w, 1)
	comes(t, w, 0)
	then(t, w, 2, sent(entered(0, 2), 1, 3, 1), sent(came(1, 2, 0, 0), 2, 3, 2), when(noon+1, delivered(came(2, 2, 0, 1), 3, 2, 2)))
	carries(t, w)
}

// TestForwardedNowhere: P19.1: what was forwarded, and doesn't find the port, is dropped: it isn't sent again.
func TestForwardedNowhere(t *testing.T) {
	w := leaving(t)
	allCome(t, w)
	tells(t, w, 1)
	sends(t, w, 0, plainFrame(mac(3)))
	comes(t, w, 0)
	comes(t, w, 0)
	then(t, w, 2, sent(entered(0, 2), 1, 3, 1), sent(came(1, 2, 0, 0), 2, 3, 2), came(2, 2, 0, 1))
	carries(t, w)
}

// TestBelowItsGen: P19.1: what was stamped by an elder row of the same owner is delivered there, and the stamp told.
func TestBelowItsGen(t *testing.T) {
	w := town(t)
	sends(t, w, 0, plainFrame(mac(3)))
	does(t, w, asks(api.RemovePort, 3, 0))
	does(t, w, asks(api.AddPort, 3, 1))
	tells(t, w, 1)
	comes(t, w, 0)
	then(t, w, 1, delivered(came(1, 1, 0, 0), 3, 2, 1))
}

// TestAboveItsGen: P19.1: nothing is delivered whose stamp is above the generation that a chassis knows.
func TestAboveItsGen(t *testing.T) {
	w := town(t)
	does(t, w, asks(api.RemovePort, 3, 0))
	does(t, w, asks(api.AddPort, 3, 1))
	tells(t, w, 0)
	f := plainFrame(mac(3))
	sends(t, w, 0, f)
	travels(t, w, normal(t, 0, 1, 3, 2, 1, f))
	comes(t, w, 0)
	happened(t, w, sent(entered(0, 1), 1, 3, 2), came(1, 1, 0, 0))
}

// TestAwake: P19.1: a message that a port is awake, handed out to the controller: also where nothing comes of it.
func TestAwake(t *testing.T) {
	w := leaving(t)
	happened(t, w, entered(2, 1))
	ticks(t, w, 1)
	comes(t, w, 0)
	then(t, w, 1, when(noon+1, awake(2, 3, 2)))
	decided(t, w, at(noon+1, moved(3, 2, 1, 2, 3)), bound(4, 2, 1, 1))
	w = leaving(t)
	does(t, w, asks(api.Abort, 3, 0))
	comes(t, w, 0)
	then(t, w, 1, awake(2, 3, 2))
	decided(t, w, bound(3, 1, 1, 3), bound(4, 2, 1, 1))
}

// TestAwakes: P19.1: each port that is awake is told, of its chassis, in the order in which they are handed out.
func TestAwakes(t *testing.T) {
	w := town(t)
	does(t, w, asks(api.Start, 3, 0))
	does(t, w, asks(api.Start, 4, 0))
	does(t, w, asks(api.AddPort, 31, 1))
	does(t, w, asks(api.Start, 31, 3))
	rounds(t, w, 2)
	sends(t, w, 0, wake(t, 4))
	sends(t, w, 3, wake(t, 31))
	sends(t, w, 0, wake(t, 3))
	steps(t, w, 3, 0)
	allCome(t, w)
	then(t, w, 3, awake(3, 31, 2), awake(0, 4, 2), awake(0, 3, 2))
}

// TestTrackedIsNoEvent: P19.1: of a message of another kind nothing is told: here of flows, that go on to the new owner.
func TestTrackedIsNoEvent(t *testing.T) {
	w := leaving(t)
	sends(t, w, 1, talk(t, mac(3), 5))
	rounds(t, w, 6)
	if l := w.Agent(2).Records(noon); len(l) != 1 || l[0].Flow.Dst != 5 {
		t.Errorf("the flows didn't come: %+v", l)
	}
	then(t, w, 2, awake(2, 3, 2))
}

// TestEventsStay: P19.1: events stay, in order, whoever crashes and starts.
func TestEventsStay(t *testing.T) {
	w := leaving(t)
	comes(t, w, 0)
	want := w.Events()
	for _, who := range []int{nobody, 0, 1, 2, 3} {
		crashes(t, w, who)
		happened(t, w, want...)
		starts(t, w, who)
		happened(t, w, want...)
	}
	w.Break(asks(api.Commit, 3, 0), 35)
	ticks(t, w, 1)
	happened(t, w, want...)
	sends(t, w, 0, plainFrame(1))
	happened(t, w, append(want, when(noon+1, entered(0, 2)))...)
}
