package world_test

import (
	"testing"

	"rutter/api"
	"rutter/world"
)

// spoil writes into all that a list's memory has.
func spoil[T any](l []T, with T) {
	l = l[:cap(l)]
	for i := range l {
		l[i] = with
	}
}

// roomy is a frame behind whose load there is room with something in it, and all of that.
func roomy(f api.Frame) (api.Frame, []byte) {
	b := append(append([]byte{}, f.Load...), "what lies behind"...)
	f.Load = b[:len(f.Load)]
	return f, b
}

// frames are of all that may become of a frame.
func frames(t testing.TB) []api.Frame {
	return []api.Frame{plainFrame(mac(3)), talk(t, mac(3), 1), plainFrame(mac(4)), talk(t, mac(4), 2), plainFrame(9), wake(t, 3), {Dst: mac(3), Load: []byte{}}}
}

// TestInjectKeepsNothing: rule 4: a frame that was injected is on its way as it was, whatever its owner does with it then.
func TestInjectKeepsNothing(t *testing.T) {
	for _, f := range frames(t) {
		w, like := town(t), town(t)
		g, b := roomy(f)
		sends(t, like, 0, f)
		sends(t, w, 0, g)
		spoil(b, '!')
		if got, want := look(w), look(like); got != want {
			t.Errorf("%s; want %s", got, want)
		}
		allCome(t, like)
		allCome(t, w)
		if got, want := look(w), look(like); got != want {
			t.Errorf("%s; want %s", got, want)
		}
	}
}

// TestInjectWritesNothing: rule 4: a frame is as it was behind the call, and what lies behind it, also where there is an error.
func TestInjectWritesNothing(t *testing.T) {
	w := town(t)
	for _, f := range append(frames(t), wrongFrames()...) {
		for _, n := range []int{-1, 0, 1, 2, 9} {
			g, b := roomy(f)
			w.Inject(n, g)
			allCome(t, w)
			if string(b) != string(f.Load)+"what lies behind" {
				t.Errorf("written into: %.80q", b)
			}
		}
	}
}

// TestAtIsNew: rule 4: who writes into what At told turns nothing of the net, nor of another answer.
func TestAtIsNew(t *testing.T) {
	w, like := busy(t), busy(t)
	for i := range w.Len() {
		a, _ := w.At(i)
		b, _ := w.At(i)
		_ = append(a.Bytes, "!!!!"...)
		spoil(a.Bytes, '!')
		if x, _ := like.At(i); !same(b, x) {
			t.Errorf("another answer: %v", b)
		}
		if got, want := look(w), look(like); got != want {
			t.Fatalf("%s; want %s", got, want)
		}
	}
}

// TestEventsAreNew: rule 4: who writes into what Events told turns nothing of them, nor of another answer, nor of those that happen then.
func TestEventsAreNew(t *testing.T) {
	w := town(t)
	for i := range 9 {
		a, b := w.Events(), w.Events()
		_ = append(a, world.Event{What: 9})
		spoil(a, world.Event{What: 9})
		if len(b) != i {
			t.Errorf("another answer: %+v", b)
		}
		sends(t, w, 0, plainFrame(9))
		for j := range i {
			if b[j] != entered(0, j+1) {
				t.Errorf("another answer: %+v", b)
			}
		}
	}
	for j, x := range w.Events() {
		if x != entered(0, j+1) {
			t.Errorf("events %+v", w.Events())
		}
	}
}

// TestApartFromWhoIsRead: rule 4: who writes into what the controller and agents tell turns nothing of the world.
func TestApartFromWhoIsRead(t *testing.T) {
	w, like := leaving(t), leaving(t)
	sends(t, w, 1, talk(t, mac(3), 1))
	sends(t, like, 1, talk(t, mac(3), 1))
	spoil(w.Ctl().Rows(), api.Row{})
	spoil(w.Ctl().Chassis(), 9)
	for n := range 4 {
		spoil(w.Agent(n).Rows(), api.Row{})
		spoil(w.Agent(n).Records(noon), api.Record{})
		for _, b := range append(w.Ctl().Out(n), w.Agent(n).Out()...) {
			spoil(b, '!')
		}
	}
	if got, want := look(w), look(like); got != want {
		t.Errorf("%s; want %s", got, want)
	}
}
