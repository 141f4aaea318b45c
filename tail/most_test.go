package tail_test

import (
	"reflect"
	"slices"
	"testing"
	"unsafe"

	"rutter/api"
	"rutter/net"
	"rutter/tail"
	"rutter/world"
)

// netOf is a world's net, wherever the world keeps it, so that what no call of the world could put there can be; nil, where it can't be found.
func netOf(w *world.World) *net.Net {
	w.Len()
	v := reflect.ValueOf(w).Elem()
	for i := range v.NumField() {
		if f := v.Field(i); f.Type() == reflect.TypeFor[*net.Net]() {
			return *(**net.Net)(unsafe.Pointer(f.UnsafeAddr()))
		}
	}
	return nil
}

// widens gives a net more room than there can be, wherever the net keeps it: whether there is that much then.
func widens(n *net.Net, room int) bool {
	v := reflect.ValueOf(n).Elem()
	for i := range v.NumField() {
		if f := v.Field(i); f.Kind() == reflect.Int && f.Int() == api.MaxFrames {
			*(*int)(unsafe.Pointer(f.UnsafeAddr())) = room
			return true
		}
	}
	return false
}

// TestRoundOfMost: P22.1: of more than 65536 items, letters and data by turns, the first 65536 are taken in a round, delivered or dropped, and the rest is under way till the next one; where no net is found in a world, or no room in a net, the test is left out.
func TestRoundOfMost(t *testing.T) {
	for _, lost := range []bool{false, true} {
		t.Run(map[bool]string{false: "delivered", true: "lost"}[lost], func(t *testing.T) {
			t.Parallel()
			mostOf(t, lost)
		})
	}
}

// mostOf checks a round of so many, lost or not, and the next one, that is not.
func mostOf(t *testing.T, lost bool) {
	w, items := made(t, span, 1), 65542
	starts(t, w, 1)
	// Data that is no packet, and what is no letter, does nothing when it comes.
	turns := []net.Item{{Kind: 0, Chassis: 1}, {Kind: 2, Chassis: 1}, {Kind: 1, Chassis: 1}}
	if n := netOf(w); n == nil || !widens(n, 1<<20) || n.Put(slices.Repeat(turns, items)[:items]...) != items {
		t.Skip("there is no room for so many")
	}
	want := 65536
	if lost {
		want = 65536 / 3
	}
	// Behind them a letter goes each way.
	if n, e := tail.Round(w, lost); n != want || e != api.OK || w.Len() != items+2-65536 {
		t.Errorf("%d, %d, %d under way; want %d", n, e, w.Len(), want)
	}
	settled(t, w, false)
	// Of the six that are left two are data.
	goes(t, w, false, 4+2+2, 2)
	if w.Agent(1).Peer() != 1 || knows(t, w, 1) != 1 {
		t.Errorf("what was left didn't come: %s", look(w))
	}
}
