package tail_test

import (
	"reflect"
	"slices"
	"testing"
	"unsafe"

	"rutter/api"
	"rutter/net"
	"rutter/tail"
	"rutter/world"
)

// netOf is a world's net, wherever the world keeps it, so that what no call of the world could put there can be; nil, where it can't be found.
func netOf(w *world.World) *net.Net {
	w.Len()
	v := reflect.ValueOf(w).Elem()
	for i := range v.NumField() {
		if f := v.Field(i); f.Type() == reflect.TypeFor[*net.Net]() {
			return *(**net.Net)(unsafe.Pointer(f.UnsafeAddr()))
		}
	}
	return nil
}

// widens gives a net more room than there can be, wherever the net keeps it: whether there is that much then.
func widens(n *net.Net, room int) bool {
	v := reflect.ValueOf(n).Elem()
	for i := range v.NumField() {
		if f := v.Field(i); f.Kind() == reflect.Int && f.Int() == api.MaxFrames {
			*(*int)(unsafe.Pointer(f.UnsafeAddr())) = room
			return true
		}
	}
	return false
}

// TestRoundOfMost: P22.1: of more than 65536 items the first 65536 come in a round, and the rest is under way till the next one; where no net is found in a world, or no room in a net, the test is left out.
func TestRoundOfMost(t *testing.T) {
	w, items := made(t, span, 1), 65540
	starts(t, w, 1)
	// Data that is no packet does nothing when it comes.
	if n := netOf(w); n == nil || !widens(n, 1<<20) || n.Put(slices.Repeat([]net.Item{{Kind: 2, Chassis: 1}}, items)...) != items {
		t.Skip("there is no room for so many")
	}
	// Behind them a letter goes each way.
	if n, e := tail.Round(w, true); n != 65536 || e != api.OK || w.Len() != items+2-n {
		t.Errorf("%d, %d, %d under way", n, e, w.Len())
	}
	settled(t, w, false)
	goes(t, w, false, items+2-65536+2)
	if w.Agent(1).Peer() != 1 || knows(t, w, 1) != 1 {
		t.Errorf("what was left didn't come: %s", look(w))
	}
}
