package dpath_test

import (
	"bytes"
	"slices"
	"testing"

	"rutter/api"
	"rutter/dpath"
	"rutter/flow"
)

// roomy are a list's bytes, with others behind its length in its memory.
func roomy(b []byte) []byte {
	return append(slices.Clone(b), "what lies behind"...)[:len(b)]
}

// whole is all that a list's memory has.
func whole(b []byte) []byte { return b[:cap(b)] }

// spoil writes into all that a list's memory has.
func spoil(b []byte) {
	for i := range whole(b) {
		whole(b)[i] ^= 255
	}
}

// bytesOf are the lists of an outcome.
func bytesOf(o dpath.Outcome) [][]byte { return [][]byte{o.Frame, o.Packet.Frame} }

// copied is an outcome with memory of its own.
func copied(o dpath.Outcome) dpath.Outcome {
	o.Frame, o.Packet.Frame = bytes.Clone(o.Frame), bytes.Clone(o.Packet.Frame)
	return o
}

// apart checks that what call answers is new memory, and shares none with what was handed in, which stays as it was.
func apart(t *testing.T, in []byte, call func() dpath.Outcome) {
	t.Helper()
	was := slices.Clone(whole(in))
	a, b := call(), call()
	want := copied(a)
	if !bytes.Equal(whole(in), was) {
		t.Errorf("written into: %x; was %x", whole(in), was)
	}
	for _, l := range bytesOf(b) {
		spoil(l)
	}
	if !same(a, want) || !bytes.Equal(whole(in), was) || !same(call(), want) {
		t.Errorf("shared by two answers, or with what came in: %+v; want %+v", a, want)
	}
	spoil(in)
	if !same(a, want) {
		t.Errorf("shared with what came in: %+v; want %+v", a, want)
	}
	for _, l := range bytesOf(a) {
		spoil(l)
	}
	spoil(in)
	if !bytes.Equal(whole(in), was) {
		t.Errorf("written into by the answer: %x; was %x", whole(in), was)
	}
}

// TestGuestIsNew: rule 4: a guest's load is neither written into nor kept, and what is answered is new memory.
func TestGuestIsNew(t *testing.T) {
	for _, n := range []int{0, 1, 2, 46, 1499, 1500, 1501} {
		for _, s := range anyTables(t) {
			f := frame(load(roomy(filled(n))))
			apart(t, f.Load, func() dpath.Outcome {
				o, _ := dpath.Guest(s, 3, f, 77)
				return o
			})
		}
	}
}

// TestTunnelIsNew: rule 4: a packet's frame is neither written into nor kept, and what is answered is new memory.
func TestTunnelIsNew(t *testing.T) {
	for _, n := range []int{0, 13, 14, 15, 60, 1513, 1514, 1515} {
		for _, s := range anyTables(t) {
			for _, p := range both(holds(roomy(filled(n)))) {
				apart(t, p.Frame, func() dpath.Outcome {
					o, _ := dpath.Tunnel(s, p.To, p)
					return o
				})
			}
		}
	}
}

// TestSentOn: rule 4: nor is a packet that was answered written into when it is sent on.
func TestSentOn(t *testing.T) {
	s := table(t, entry(does(2, 9, 5, 7), func(e *flow.Entry) { e.Ins = 1 }), entry(does(2, 9, 8, 9), func(e *flow.Entry) { e.Ins = 2 }), entry(does(1, 9, 8, 9), func(e *flow.Entry) { e.Ins = 4 }))
	f := frame()
	a, _ := dpath.Guest(s, 3, f, 77)
	b, _ := dpath.Tunnel(s, 5, a.Packet)
	c, _ := dpath.Tunnel(s, 8, b.Packet)
	if !same(a, goes(f, 3, 5, 9, 7, 77)) || !same(b, passed(a.Packet, 8, 9)) || !same(c, came(b.Packet, 9, 9)) {
		t.Errorf("%+v, then %+v, then %+v", a, b, c)
	}
	spoil(c.Frame)
	spoil(a.Packet.Frame)
	if string(b.Packet.Frame) != string(plainBytes(f)) {
		t.Errorf("shared: %x", b.Packet.Frame)
	}
}

// TestTableStays: P15.1: a table is as it was behind each call, and so is what it tells.
func TestTableStays(t *testing.T) {
	l := []flow.Entry{entry(does(2, 9, 8, 7)), entry(does(1, 4, 4, 4), func(e *flow.Entry) { e.MAC, e.Port = other, 4 }), entry(does(0, 1, 1, 1), func(e *flow.Entry) { e.Prio, e.Not = 3, 3 })}
	s := table(t, l...)
	for range 3 {
		for _, f := range []api.Frame{frame(), frame(dst(other)), frame(dst(7)), frame(dst(1 << 48))} {
			want, e := plainGuest(s, 3, f, 77)
			if o, too := dpath.Guest(s, 3, f, 77); !same(o, want) || e != too {
				t.Errorf("%+v: %+v, %d; want %+v, %d", f, o, too, want, e)
			}
		}
		for _, p := range append(both(), normal(port(4)), normal(gen(0)), forward(port(8))) {
			want, e := plainTunnel(s, 5, p)
			if o, too := dpath.Tunnel(s, 5, p); !same(o, want) || e != too {
				t.Errorf("%+v: %+v, %d; want %+v, %d", p, o, too, want, e)
			}
		}
		if !slices.Equal(s.Entries(), l) {
			t.Errorf("%+v; want %+v", s.Entries(), l)
		}
	}
}
