package dpath_test

import (
	"math"
	"testing"

	"rutter/api"
	"rutter/dpath"
	"rutter/flow"
)

// given is the outcome of a guest's frame that is delivered.
func given(f api.Frame, port, gen int) dpath.Outcome {
	return dpath.Outcome{Kind: 1, Port: port, Gen: gen, Stamp: gen, Frame: plainBytes(f)}
}

// goes is the outcome of a guest's frame that is sent.
func goes(f api.Frame, chassis, to, port, gen, id int) dpath.Outcome {
	return dpath.Outcome{Kind: 2, Packet: api.Packet{Kind: 1, Origin: chassis, From: chassis, To: to, Port: port, Gen: gen, ID: id, Frame: plainBytes(f)}}
}

// TestGuest: P15.1: dropped, delivered, and sent, each with what it has, and nothing else.
func TestGuest(t *testing.T) {
	f := api.Frame{Dst: own, Src: 0x010203040506, Type: 0x0800, Load: []byte("hi")}
	raw := []byte{2, 0, 0, 0, 0, 9, 1, 2, 3, 4, 5, 6, 8, 0, 'h', 'i'}
	guest(t, table(t, entry(does(0, 9, 8, 7))), 3, f, 77, dpath.Outcome{})
	guest(t, table(t, entry(does(1, 9, 8, 7))), 3, f, 77, dpath.Outcome{Kind: 1, Port: 9, Gen: 7, Stamp: 7, Frame: raw})
	guest(t, table(t, entry(does(2, 9, 8, 7))), 3, f, 77, dpath.Outcome{Kind: 2, Packet: api.Packet{Kind: 1, Origin: 3, From: 3, To: 8, Port: 9, Gen: 7, ID: 77, Frame: raw}})
}

// TestGuestNothing: P15.1: by no table, by an empty one, and by one where none fits, it is dropped.
func TestGuestNothing(t *testing.T) {
	for _, s := range []*flow.Table{
		nil, {}, table(t),
		table(t, entry(does(1, 9, 8, 7), func(e *flow.Entry) { e.MAC++ }), entry(does(2, 9, 8, 7), func(e *flow.Entry) { e.MAC = 0 })),
		table(t, entry(does(1, 9, 8, 7), func(e *flow.Entry) { e.Ins = 6 })),
		table(t, entry(does(2, 9, 8, 7), func(e *flow.Entry) { e.Ins = 0 })),
	} {
		for chassis := range 16 {
			guest(t, s, chassis, frame(), 1, dpath.Outcome{})
			guest(t, s, chassis, frame(load(nil)), 0, dpath.Outcome{})
		}
	}
}

// TestGuestKinds: P15.1: what an action of each kind does, and of those that are none: dropped.
func TestGuestKinds(t *testing.T) {
	f := frame()
	for _, k := range append(edges(), -3, 5, 7, 1<<32+2, -1<<63+1) {
		want := dpath.Outcome{}
		switch k {
		case 1:
			want = given(f, 9, 7)
		case 2:
			want = goes(f, 3, 8, 9, 7, 77)
		}
		guest(t, table(t, entry(does(k, 9, 8, 7))), 3, f, 77, want)
	}
}

// TestGuestFrames: P15.1: which frames may be, at each edge, and which not; the bytes of those that may are as they were.
func TestGuestFrames(t *testing.T) {
	var fs []api.Frame
	for _, n := range []uint64{0, 1, own, 1<<40 - 1, 1 << 40, 1<<48 - 2, 1<<48 - 1, 1 << 48, 1<<48 + own, 1 << 63, math.MaxUint64} {
		fs = append(fs, frame(dst(n)), frame(src(n)), frame(dst(n), src(n)))
	}
	for _, n := range []int{math.MinInt, -65536, -2, -1, 0, 1, 255, 256, 0x0800, 0x0806, 0x8035, 65534, 65535, 65536, 65537, 1 << 32, math.MaxInt} {
		fs = append(fs, frame(typed(n)), frame(typed(n), src(1<<48-1)))
	}
	for _, b := range [][]byte{nil, {}, {7}, {0}, filled(2), filled(1499), filled(1500), filled(1501), filled(1514), filled(70000)} {
		fs = append(fs, frame(load(b)), frame(load(b), typed(65535), dst(1<<48-1)))
	}
	may := 0
	for _, f := range fs {
		at := func(e *flow.Entry) { e.MAC = f.Dst }
		if !frameMayBe(f) {
			noGuest(t, 3, f, 77)
			continue
		}
		may++
		guest(t, nil, 3, f, 77, dpath.Outcome{})
		guest(t, table(t, entry(does(0, 9, 8, 7), at)), 3, f, 77, dpath.Outcome{})
		guest(t, table(t, entry(does(1, 9, 8, 7), at)), 3, f, 77, given(f, 9, 7))
		guest(t, table(t, entry(does(2, 9, 8, 7), at)), 3, f, 77, goes(f, 3, 8, 9, 7, 77))
	}
	if may != 7*3+9*2+7*2 { // addresses, types and loads
		t.Errorf("%d may be", may)
	}
}

// TestGuestChassis: P15.1: a chassis of 0 to 15, and no other, with all else as it may be.
func TestGuestChassis(t *testing.T) {
	f := frame()
	for _, n := range append(edges(), 5, 14, 17, 1<<32+3) {
		if n < 0 || n > 15 {
			noGuest(t, n, f, 77)
			continue
		}
		guest(t, nil, n, f, 77, dpath.Outcome{})
		guest(t, table(t, entry(does(1, 9, 8, 7))), n, f, 77, given(f, 9, 7))
		guest(t, table(t, entry(does(2, 9, 8, 7))), n, f, 77, goes(f, n, 8, 9, 7, 77))
	}
}

// TestGuestIDs: P15.1: an ID of 0 to 2^40, and no other, with all else as it may be.
func TestGuestIDs(t *testing.T) {
	f := frame()
	for _, n := range append(edges(), 1<<40-1, 1<<48, 1<<48+77) {
		if n < 0 || n > 1<<40 {
			noGuest(t, 3, f, n)
			continue
		}
		guest(t, nil, 3, f, n, dpath.Outcome{})
		guest(t, table(t, entry(does(1, 9, 8, 7))), 3, f, n, given(f, 9, 7))
		guest(t, table(t, entry(does(2, 9, 8, 7))), 3, f, n, goes(f, 3, 8, 9, 7, n))
	}
}

// TestGuestSeveralWrong: P15.1: several that may not be at once.
func TestGuestSeveralWrong(t *testing.T) {
	for _, chassis := range []int{-1, 3, 16} {
		for _, id := range []int{-1, 7, 1<<40 + 1} {
			for _, f := range []api.Frame{frame(), frame(dst(1 << 48)), frame(src(1 << 48)), frame(typed(-1)), frame(typed(65536), load(filled(1501))), frame(load(filled(1501)))} {
				if chassis == 3 && id == 7 && frameMayBe(f) {
					continue
				}
				noGuest(t, chassis, f, id)
			}
		}
	}
}

// TestGuestDelivers: P15.1: any PORT, GEN and TO, also such as no packet may have; the STAMP is that GEN.
func TestGuestDelivers(t *testing.T) {
	f := frame()
	for _, n := range edges() {
		guest(t, table(t, entry(does(1, n, 8, 7))), 3, f, 77, given(f, n, 7))
		guest(t, table(t, entry(does(1, 9, 8, n))), 3, f, 77, given(f, 9, n))
		guest(t, table(t, entry(does(1, 9, n, 7))), 3, f, 77, given(f, 9, 7))
		guest(t, table(t, entry(does(1, n, n, n))), 3, f, 77, given(f, n, n))
	}
}

// TestGuestSends: P15.1: to each chassis but its own, with a PORT and a GEN that a packet may have; else it is dropped.
func TestGuestSends(t *testing.T) {
	f := frame()
	for _, n := range append(edges(), 5, 14, 17, 30, 33) {
		for _, chassis := range []int{0, 3, 15} {
			want := [3]dpath.Outcome{}
			if is(n, 0, 15) && n != chassis {
				want[0] = goes(f, chassis, n, 9, 7, 77)
			}
			if is(n, 0, 31) {
				want[1] = goes(f, chassis, 8, n, 7, 77)
			}
			if is(n, 1, 1<<32) {
				want[2] = goes(f, chassis, 8, 9, n, 77)
			}
			guest(t, table(t, entry(does(2, 9, n, 7))), chassis, f, 77, want[0])
			guest(t, table(t, entry(does(2, n, 8, 7))), chassis, f, 77, want[1])
			guest(t, table(t, entry(does(2, 9, 8, n))), chassis, f, 77, want[2])
		}
	}
	guest(t, table(t, entry(does(2, 32, 16, 0))), 3, f, 77, dpath.Outcome{})
	guest(t, table(t, entry(does(2, -1, 3, 1<<32+1))), 3, f, 77, dpath.Outcome{})
}

// TestGuestByDst: P15.1: it is looked up by its Dst, whatever its Src, its Type and its load are.
func TestGuestByDst(t *testing.T) {
	s := table(t,
		entry(does(1, 9, 8, 7)),
		entry(does(2, 4, 2, 5), func(e *flow.Entry) { e.MAC = other }),
		entry(does(1, 0, 0, 1), func(e *flow.Entry) { e.MAC = 0 }),
		entry(does(2, 31, 15, 1<<32), func(e *flow.Entry) { e.MAC = 1<<48 - 1 }))
	for _, n := range []uint64{own, other, 0, 1, 1<<48 - 1} {
		for _, b := range [][]byte{nil, plainBytes(frame()), plainBytes(frame(dst(other), src(own)))} {
			for _, x := range []int{0, 0x0800, 0x0806, 0x8035} {
				f := frame(src(n), load(b), typed(x))
				guest(t, s, 3, f, 77, given(f, 9, 7))
				f = frame(dst(other), src(n), load(b), typed(x))
				guest(t, s, 3, f, 77, goes(f, 3, 2, 4, 5, 77))
				f = frame(dst(0), src(n), load(b), typed(x))
				guest(t, s, 3, f, 77, given(f, 0, 1))
				f = frame(dst(1<<48-1), src(n), load(b), typed(x))
				guest(t, s, 3, f, 77, goes(f, 3, 15, 31, 1<<32, 77))
				f = frame(dst(own+1), src(n), load(b), typed(x))
				guest(t, s, 3, f, 77, dpath.Outcome{})
			}
		}
	}
}

// TestGuestKey: P15.1: its IN is 0, its STAMP 0 and its ORIGIN -1, at whichever chassis it is.
func TestGuestKey(t *testing.T) {
	f := frame()
	for _, x := range []struct {
		c    func(e *flow.Entry)
		fits bool
	}{
		{func(e *flow.Entry) { e.Ins = 1 }, true},
		{func(e *flow.Entry) { e.Ins = 2 }, false},
		{func(e *flow.Entry) { e.Ins = 4 }, false},
		{func(e *flow.Entry) { e.From, e.Upto = 0, 0 }, true},
		{func(e *flow.Entry) { e.From = 1 }, false},
		{func(e *flow.Entry) { e.Upto = -1 }, false},
		{func(e *flow.Entry) { e.From, e.Upto = 7, 7 }, false},
		{func(e *flow.Entry) { e.From, e.Upto = 77, 77 }, false},
		{func(e *flow.Entry) { e.Not = -1 }, false},
		{func(e *flow.Entry) { e.Not = 0 }, true},
		{func(e *flow.Entry) { e.Not = 3 }, true},
		{func(e *flow.Entry) { e.Not = 16 }, true},
		{func(e *flow.Entry) { e.Port = 0 }, true},
		{func(e *flow.Entry) { e.Port = -1 }, true},
	} {
		for chassis := range 16 {
			want := dpath.Outcome{}
			if x.fits {
				want = given(f, 9, 7)
			}
			guest(t, table(t, entry(does(1, 9, 8, 7), x.c)), chassis, f, 77, want)
		}
	}
}

// TestGuestByRank: P15.1: what becomes of it is told by the entry that is looked up, also where a lesser one would do another thing.
func TestGuestByRank(t *testing.T) {
	f, first := frame(), func(e *flow.Entry) { e.Prio = 1 }
	drop, give, send, none := entry(does(0, 1, 2, 3)), entry(does(1, 9, 8, 7)), entry(does(2, 4, 5, 6)), entry(does(3, 9, 8, 7), first)
	guest(t, table(t, drop, give, send), 3, f, 77, dpath.Outcome{})
	guest(t, table(t, give, send, drop), 3, f, 77, given(f, 9, 7))
	guest(t, table(t, send, drop, give), 3, f, 77, goes(f, 3, 5, 4, 6, 77))
	guest(t, table(t, send, give, entry(does(0, 0, 0, 0), first)), 3, f, 77, dpath.Outcome{})
	guest(t, table(t, drop, send, entry(does(1, 2, 2, 2), first)), 3, f, 77, given(f, 2, 2))
	guest(t, table(t, drop, give, entry(does(2, 2, 2, 2), first)), 3, f, 77, goes(f, 3, 2, 2, 2, 77))
	guest(t, table(t, give, send, none), 3, f, 77, dpath.Outcome{})
	guest(t, table(t, give, entry(does(2, 9, 3, 7), first)), 3, f, 77, dpath.Outcome{}) // what cannot be sent is not looked up again
}
