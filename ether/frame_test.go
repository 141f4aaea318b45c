package ether_test

import (
	"bytes"
	"math"
	"testing"

	"rutter/api"
	"rutter/ether"
)

// frame is one that may be, with that changed.
func frame(change ...func(f *api.Frame)) api.Frame {
	f := api.Frame{Dst: 0x010203040506, Src: 0x0a0b0c0d0e0f, Type: api.TypeIPv4, Load: []byte("load")}
	for _, c := range change {
		c(&f)
	}
	return f
}

func dst(mac uint64) func(f *api.Frame) { return func(f *api.Frame) { f.Dst = mac } }
func src(mac uint64) func(f *api.Frame) { return func(f *api.Frame) { f.Src = mac } }
func kind(n int) func(f *api.Frame)     { return func(f *api.Frame) { f.Type = n } }
func load(b []byte) func(f *api.Frame)  { return func(f *api.Frame) { f.Load = b } }

// sized changes a load to one of n bytes.
func sized(n int) func(f *api.Frame) { return load(bytes.Repeat([]byte("xyz"), n/3+1)[:n]) }

// rightFrames are frames that may be: ordinary ones, and the edges.
func rightFrames() []api.Frame {
	l := []api.Frame{{}, frame(), frame(load(nil)), frame(load([]byte{}))}
	for _, mac := range []uint64{0, 1, 1<<40 - 1, 1 << 40, 1<<40 + 1, 1 << 41, 1 << 47, api.MaxMAC - 1, api.MaxMAC} {
		l = append(l, frame(dst(mac)), frame(src(mac)), frame(dst(mac), src(mac)))
	}
	for _, n := range []int{0, 1, 255, 256, api.TypeARP, api.TypeRARP, 32767, 32768, 65534, 65535} {
		l = append(l, frame(kind(n)))
	}
	for _, n := range []int{0, 1, 2, 255, 256, 1499, 1500} {
		l = append(l, frame(sized(n)))
	}
	return append(l, frame(dst(api.MaxMAC), src(api.MaxMAC), kind(65535), sized(1500)))
}

// wrongFrames are frames that may not be, each by one thing, and by all.
func wrongFrames() []api.Frame {
	var l []api.Frame
	for _, mac := range []uint64{1 << 48, 1<<48 + 1, 1<<48 + 1<<41, 1 << 62, 1<<63 - 1, 1 << 63, 1<<63 + 5, math.MaxUint64 - 1, math.MaxUint64} {
		l = append(l, frame(dst(mac)), frame(src(mac)), frame(dst(mac), src(mac)), frame(dst(mac), src(0)), frame(dst(0), src(mac)))
	}
	for _, n := range []int{-1, -2, -65536, math.MinInt64, math.MinInt64 + api.TypeIPv4, 65536, 65536 + api.TypeIPv4, 1 << 32, 1<<32 + api.TypeIPv4, math.MaxInt64} {
		l = append(l, frame(kind(n)))
	}
	for _, n := range []int{1501, 1502, 1514, 1515, 65535, 65536, 65537, 1 << 20} {
		l = append(l, frame(sized(n)), api.Frame{Load: make([]byte, n)})
	}
	return append(l, frame(dst(math.MaxUint64), src(1<<48), kind(-1), sized(1501)))
}

// TestRight: P2.1: which frames may be, at each edge.
func TestRight(t *testing.T) {
	for i, f := range rightFrames() {
		if !ether.Right(f) {
			t.Errorf("right frame %d: %x %x %d, %d bytes", i, f.Dst, f.Src, f.Type, len(f.Load))
		}
	}
	for i, f := range wrongFrames() {
		if ether.Right(f) {
			t.Errorf("wrong frame %d: %x %x %d, %d bytes", i, f.Dst, f.Src, f.Type, len(f.Load))
		}
	}
}

// TestRightByLength: P2.1: a load's length counts, not the room behind it.
func TestRightByLength(t *testing.T) {
	if !ether.Right(frame(load(make([]byte, 4, 3000)))) || !ether.Right(frame(load(make([]byte, 1500, 1501)))) {
		t.Error("room behind a load")
	}
}

// TestSame: P2.1: two have the same, the one way round and the other.
func TestSame(t *testing.T) {
	same := func(a, b api.Frame, want bool) {
		t.Helper()
		if ether.Same(a, b) != want || ether.Same(b, a) != want {
			t.Errorf("%x %x %d %q, %x %x %d %q: not %t", a.Dst, a.Src, a.Type, a.Load, b.Dst, b.Src, b.Type, b.Load, want)
		}
	}
	a := frame()
	same(a, a, true)
	same(a, frame(), true)
	same(api.Frame{}, api.Frame{}, true)
	same(a, api.Frame{}, false)
	same(a, frame(dst(a.Src), src(a.Dst)), false)
	same(a, frame(dst(a.Dst+1)), false)
	same(a, frame(dst(a.Dst^1<<47)), false)
	same(a, frame(src(a.Src-1)), false)
	same(a, frame(src(a.Src^1<<40)), false)
	same(a, frame(kind(api.TypeARP)), false)
	for _, s := range []string{"", "l", "loa", "loads", "Load", "loaf", "load\x00", "\x00load"} {
		same(a, frame(load([]byte(s))), false)
	}
	same(frame(sized(1500)), frame(sized(1500)), true)
	same(frame(sized(1500)), frame(sized(1499)), false)
}

// TestSameNothing: P2.1: a load without bytes may be nil or not.
func TestSameNothing(t *testing.T) {
	a, b, c := frame(load(nil)), frame(load([]byte{})), frame(load([]byte("abc")[:0]))
	if !ether.Same(a, b) || !ether.Same(b, a) || !ether.Same(b, c) || !ether.Same(c, a) {
		t.Error("nothing isn't the same as nothing")
	}
	if ether.Same(a, frame(load([]byte{0}))) || ether.Same(frame(load([]byte{0})), b) {
		t.Error("nothing is the same as a byte")
	}
}

// TestSameByLength: P2.1: what lies behind a load's length doesn't matter.
func TestSameByLength(t *testing.T) {
	if !ether.Same(frame(load([]byte("load1")[:4])), frame(load([]byte("load2")[:4]))) {
		t.Error("the room behind them is another one")
	}
}

// TestSameWrong: P2.1: of frames that may not be, too, all they have counts, and nothing wraps round.
func TestSameWrong(t *testing.T) {
	for i, a := range wrongFrames() {
		b := a
		b.Load = bytes.Clone(a.Load)
		if !ether.Same(a, a) || !ether.Same(a, b) {
			t.Errorf("%d: not the same", i)
		}
		if ether.Same(a, frame()) || ether.Same(frame(), a) {
			t.Errorf("%d: the same as a right one", i)
		}
	}
	if ether.Same(frame(kind(-1)), frame(kind(65535))) || ether.Same(frame(kind(65536)), frame(kind(0))) {
		t.Error("a type wraps round")
	}
	if ether.Same(frame(dst(1<<48)), frame(dst(0))) || ether.Same(frame(src(math.MaxUint64)), frame(src(api.MaxMAC))) {
		t.Error("an address wraps round")
	}
}

// TestMany: P2.1: the bit of 2^40, and no other one.
func TestMany(t *testing.T) {
	for k := range 64 {
		if got := ether.Many(1 << k); got != (k == 40) {
			t.Errorf("2^%d: %t", k, got)
		}
		if got := ether.Many(^uint64(1 << k)); got != (k != 40) {
			t.Errorf("all but 2^%d: %t", k, got)
		}
	}
	for _, mac := range []uint64{1 << 40, 1<<40 + 1, 1<<41 - 1, 3 << 40, 0x010000000000, 0xff0000000000, api.MaxMAC, math.MaxUint64} {
		if !ether.Many(mac) {
			t.Errorf("%x: not many's", mac)
		}
	}
	for _, mac := range []uint64{0, 1, 1<<40 - 1, 1 << 41, 1<<41 + 3, 0xfe0000000000, 0xfeffffffffff, 1 << 48} {
		if ether.Many(mac) {
			t.Errorf("%x: many's", mac)
		}
	}
}

// TestMAC: P2.1: 2^41 and the number, added; the first is the document's example.
func TestMAC(t *testing.T) {
	for port, want := range map[int]uint64{3: 2199023255555, 0: 2199023255552, 1: 2199023255553, 31: 2199023255583, 32: 2199023255584, 65534: 2199023321086, 65535: 2199023321087} {
		if mac := ether.MAC(port); mac != want {
			t.Errorf("%d: %d; want %d", port, mac, want)
		}
	}
}

// TestMACNone: P2.1: only from 0 to 65535.
func TestMACNone(t *testing.T) {
	for _, port := range []int{-1, -2, -65536, math.MinInt64, math.MinInt64 + 3, 65536, 65537, 65536 + 3, 1 << 31, 1<<32 + 3, 1 << 41, 1 << 48, math.MaxInt64} {
		if mac := ether.MAC(port); mac != 0 {
			t.Errorf("%d: %x", port, mac)
		}
	}
}

// TestMACs: P2.1: each port has its own, which a frame may have, and which isn't many's.
func TestMACs(t *testing.T) {
	for port := range 65536 {
		mac := ether.MAC(port)
		if mac != 1<<41|uint64(port) || ether.Many(mac) || !ether.Right(api.Frame{Dst: mac, Src: mac}) {
			t.Fatalf("%d: %x", port, mac)
		}
	}
}
