package audit_test

import (
	"reflect"
	"slices"
	"testing"
	"unsafe"

	"rutter/api"
	"rutter/audit"
	"rutter/ether"
	"rutter/net"
	"rutter/tunnel"
	"rutter/world"
)

// TestFine: P21.1: a nil world, a new one, and an ordinary one are fine.
func TestFine(t *testing.T) {
	for range 2 {
		if !audit.Fine(nil) {
			t.Error("a nil world is fine")
		}
	}
	fine(t, made(t), true)
	fine(t, made(t, all()...), true)
	fine(t, town(t), true)
	w := made(t)
	crashes(t, w, nobody)
	fine(t, w, true)
}

// split is a world in which 1 and 2 both believe that they own port 3, by one generation.
func split(t testing.TB) *world.World {
	t.Helper()
	w := town(t)
	believes(t, w, 1, bound(3, 1, 5, 9))
	believes(t, w, 2, bound(3, 2, 5, 9))
	return w
}

// TestFineByRows: P21.1: a row that two have is not fine, though nothing is wrong with what happened; when one is down it is fine again.
func TestFineByRows(t *testing.T) {
	for who := 1; who <= 2; who++ {
		w := split(t)
		sends(t, w, 1, plainFrame(3))
		sends(t, w, 2, plainFrame(4))
		right(t, w.Events()...)
		fine(t, w, false)
		crashes(t, w, who)
		fine(t, w, true)
	}
}

// TestFineByEvents: P21.1: what is wrong with what happened is not fine, whoever is up then, and whatever happens behind it.
func TestFineByEvents(t *testing.T) {
	w := split(t)
	sends(t, w, 1, plainFrame(3))
	sends(t, w, 2, plainFrame(3))
	wrong(t, audit.Owner, w.Events()...)
	fine(t, w, false)
	crashes(t, w, 1, 2)
	once(t, w)
	fine(t, w, false)
	starts(t, w, 1, 2)
	rounds(t, w, 4)
	sends(t, w, 0, plainFrame(3))
	allCome(t, w)
	once(t, w)
	finds(t, 1, audit.Owner, w.Events()...)
	fine(t, w, false)
}

// netOf is a world's net, wherever the world keeps it, so that what no call of the world could put there can be; where it can't be found, the test is left out.
func netOf(t testing.TB, w *world.World) *net.Net {
	t.Helper()
	w.Len()
	v := reflect.ValueOf(w).Elem()
	for i := 0; v.Kind() == reflect.Struct && i < v.NumField(); i++ {
		if f := v.Field(i); f.Type() == reflect.TypeFor[*net.Net]() {
			return *(**net.Net)(unsafe.Pointer(f.UnsafeAddr()))
		}
	}
	t.Skip("no net is found in a world")
	return nil
}

// TestFineByOften: P21.1: what comes once more than it was sent and doubled is not fine.
func TestFineByOften(t *testing.T) {
	f, e := ether.Encode(plainFrame(3))
	ok(t, e)
	b, e := tunnel.Encode(api.Packet{Kind: api.Normal, Origin: 0, From: 0, To: 1, Port: 3, Gen: 1, ID: 7, Frame: f})
	ok(t, e)
	for n := range 3 {
		w := town(t)
		netOf(t, w).Put(slices.Repeat([]net.Item{{Kind: 2, Chassis: 1, Bytes: b}}, 2)...)
		for range n {
			ok(t, w.Double(0))
		}
		for w.Len() > 1 {
			ok(t, w.Deliver(0))
			fine(t, w, true)
		}
		ok(t, w.Deliver(0))
		wrong(t, audit.Often, w.Events()...)
		fine(t, w, false)
	}
}

// leaving is a town in which port 3 is moving to 2, which all have heard of, and the guest there is awake; of that nobody has heard, but it is under way.
func leaving(t testing.TB) *world.World {
	t.Helper()
	w := town(t)
	does(t, w, asks(api.Start, 3, 2))
	rounds(t, w, 2)
	sends(t, w, 2, announces(3))
	steps(t, w, 2)
	return w
}

// tells lets what the controller has to tell come to these chassis; what goes to others is lost.
func tells(t testing.TB, w *world.World, l ...int) {
	t.Helper()
	steps(t, w, nobody)
	for i := 0; i < w.Len(); {
		switch x, _ := w.At(i); {
		case x.Kind != 1:
			i++
		case slices.Contains(l, x.Chassis):
			ok(t, w.Deliver(i))
		default:
			ok(t, w.Drop(i))
		}
	}
}

// saw checks that an event was, of that what and kind, of which that became.
func saw(t testing.TB, w *world.World, what int, kind api.Kind, done int) {
	t.Helper()
	for _, x := range w.Events() {
		if x.What == what && x.Kind == kind && x.Done == done {
			return
		}
	}
	t.Fatalf("nothing of what %d, kind %d, done %d: %+v", what, kind, done, w.Events())
}

// TestForwardedIsFine: P21.2, example 2: what is sent by an elder row is forwarded, and delivered where the port is.
func TestForwardedIsFine(t *testing.T) {
	w := leaving(t)
	fine(t, w, true)
	allCome(t, w)
	tells(t, w, 1, 2)
	sends(t, w, 0, plainFrame(3))
	for w.Len() > 0 {
		fine(t, w, true)
		ok(t, w.Deliver(0))
	}
	saw(t, w, 0, 0, 0)
	saw(t, w, 1, 0, 2)
	saw(t, w, 2, api.Normal, 2)
	saw(t, w, 2, api.Forward, 1)
	fine(t, w, true)
	visits(t, 2, w.Events(), 0, 1, 2)
}

// TestDoubledIsFine: P21.2, example 8: what is doubled is delivered so often more, ahead of where it is forwarded, and behind it.
func TestDoubledIsFine(t *testing.T) {
	for ahead := range 4 {
		for onward := range 4 {
			w := leaving(t)
			allCome(t, w)
			tells(t, w, 1, 2)
			sends(t, w, 0, plainFrame(3))
			for range ahead {
				ok(t, w.Double(0))
			}
			for range 1 + ahead {
				ok(t, w.Deliver(0))
				fine(t, w, true)
			}
			for range onward {
				ok(t, w.Double(0))
			}
			allCome(t, w)
			fine(t, w, true)
			saw(t, w, 2, api.Forward, 1)
			if n, want := len(audit.Visits(2, w.Events()...)), 3+2*ahead+onward; n != want {
				t.Errorf("doubled %d and %d times: %d looks; want %d", ahead, onward, n, want)
			}
		}
	}
}

// TestMovedIsFine: P21.2: a port that goes from 1 to 2, and on to 3, and back, of which each chassis has heard or not.
func TestMovedIsFine(t *testing.T) {
	for mask := range 1 << 12 {
		w := town(t)
		for i, to := range []int{2, 3, 1} {
			does(t, w, asks(api.Start, 3, to))
			does(t, w, asks(api.Commit, 3, 0))
			for n := range 4 {
				if mask>>(4*i+n)&1 == 1 {
					tells(t, w, n)
				}
			}
			for n := range 4 {
				sends(t, w, n, plainFrame(3))
			}
			allCome(t, w)
			does(t, w, asks(api.Commit, 3, 0))
		}
		if !audit.Fine(w) {
			t.Fatalf("told as %012b: %s", mask, look(w))
		}
	}
}

// TestBrokenIsFine: P21.2: a controller that crashed in the middle of a call, wherever its record was torn, and was started again.
func TestBrokenIsFine(t *testing.T) {
	for keep := range 37 {
		for _, op := range []api.Op{api.Start, api.Commit, api.Abort, api.RemovePort} {
			w := town(t)
			if op != api.RemovePort {
				does(t, w, asks(api.Start, 4, 3))
			}
			if op == api.Start {
				does(t, w, asks(api.Abort, 4, 0))
			}
			rounds(t, w, 2)
			ok(t, w.Break(asks(op, 4, 3), keep))
			for n := range 4 {
				sends(t, w, n, plainFrame(4))
			}
			steps(t, w, 0, 1, 2, 3)
			allCome(t, w)
			fine(t, w, true)
			starts(t, w, nobody)
			rounds(t, w, 3)
			for n := range 4 {
				sends(t, w, n, plainFrame(4))
			}
			allCome(t, w)
			fine(t, w, true)
		}
	}
}
