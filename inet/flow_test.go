package inet_test

import (
	"math"
	"testing"

	"rutter/api"
	"rutter/inet"
)

// ordinary is a flow that may be, whose fields all differ, with that changed.
func ordinary(change ...func(f *api.Flow)) api.Flow {
	f := api.Flow{Proto: api.TCP, Src: 0x0a000102, Dst: 0xc0a80304, SrcPort: 0x1234, DstPort: 443}
	for _, c := range change {
		c(&f)
	}
	return f
}

func proto(n int) func(f *api.Flow)   { return func(f *api.Flow) { f.Proto = n } }
func src(n uint32) func(f *api.Flow)  { return func(f *api.Flow) { f.Src = n } }
func dst(n uint32) func(f *api.Flow)  { return func(f *api.Flow) { f.Dst = n } }
func srcPort(n int) func(f *api.Flow) { return func(f *api.Flow) { f.SrcPort = n } }
func dstPort(n int) func(f *api.Flow) { return func(f *api.Flow) { f.DstPort = n } }

// rightFlows are flows that may be: ordinary ones, and the edges of each field.
func rightFlows() []api.Flow {
	l := []api.Flow{{Proto: 6}, {Proto: 17}, ordinary(), ordinary(proto(17))}
	for _, n := range []int{0, 1, 255, 256, 32767, 32768, 65534, 65535} {
		l = append(l, ordinary(srcPort(n)), ordinary(dstPort(n)), ordinary(proto(17), srcPort(n), dstPort(n)))
	}
	for _, n := range []uint32{0, 1, 65535, 65536, 1<<31 - 1, 1 << 31, 1<<32 - 2, 1<<32 - 1} {
		l = append(l, ordinary(src(n)), ordinary(dst(n)), ordinary(proto(17), src(n), dst(n)))
	}
	most := api.Flow{Proto: 6, Src: 1<<32 - 1, Dst: 1<<32 - 1, SrcPort: 65535, DstPort: 65535}
	least := api.Flow{Proto: 17, Src: 1<<32 - 1, SrcPort: 65535}
	return append(l, most, least)
}

// wrongProtos are numbers that are no protocols; of some the lowest byte is one's.
func wrongProtos() []int {
	return []int{5, 7, 16, 18, 0, 1, 255, 256, -1, -6, -17, 262, 273, -250, -239, 6<<8 | 17, 1<<32 + 6, 1<<32 + 17, math.MinInt64, math.MinInt64 + 6, math.MaxInt64}
}

// wrongPorts are numbers that are no ports.
func wrongPorts() []int {
	return []int{-1, -2, -65535, -65536, math.MinInt64, math.MinInt64 + 80, 65536, 65537, 65536 + 80, 1 << 31, 1 << 32, 1<<32 + 80, math.MaxInt64}
}

// wrongFlows are flows that may not be, each by one thing, and by all.
func wrongFlows() []api.Flow {
	l := []api.Flow{{}}
	for _, n := range wrongProtos() {
		l = append(l, ordinary(proto(n)), api.Flow{Proto: n})
	}
	for _, n := range wrongPorts() {
		l = append(l, ordinary(srcPort(n)), ordinary(dstPort(n)), ordinary(proto(17), srcPort(n), dstPort(n)))
		l = append(l, ordinary(srcPort(n), dstPort(0)), ordinary(srcPort(65535), dstPort(n)))
	}
	return append(l, api.Flow{Proto: -1, Src: 1<<32 - 1, Dst: 1<<32 - 1, SrcPort: -1, DstPort: 65536})
}

// TestRight: P4.1: which flows may be, at each edge.
func TestRight(t *testing.T) {
	for _, f := range rightFlows() {
		if !inet.Right(f) {
			t.Errorf("%+v may be", f)
		}
	}
	for _, f := range wrongFlows() {
		if inet.Right(f) {
			t.Errorf("%+v may not be", f)
		}
	}
}

// TestRightProtocols: P4.1: 6 and 17, and no other protocol.
func TestRightProtocols(t *testing.T) {
	for n := -70000; n <= 70000; n++ {
		if got := inet.Right(ordinary(proto(n))); got != (n == 6 || n == 17) {
			t.Errorf("%d: %t", n, got)
		}
	}
}

// TestRightPorts: P4.1: from 0 to 65535, and no other port, on both sides.
func TestRightPorts(t *testing.T) {
	for n := -70000; n <= 140000; n++ {
		want := n >= 0 && n <= 65535
		if inet.Right(ordinary(srcPort(n))) != want || inet.Right(ordinary(dstPort(n))) != want {
			t.Errorf("%d: not %t", n, want)
		}
	}
}

// TestBack: P4.1: what is changed over, and what stays.
func TestBack(t *testing.T) {
	for _, x := range []struct{ there, back api.Flow }{
		{api.Flow{Proto: 6, Src: 1, Dst: 2, SrcPort: 3, DstPort: 4}, api.Flow{Proto: 6, Src: 2, Dst: 1, SrcPort: 4, DstPort: 3}},
		{api.Flow{Proto: 17, Src: 1<<32 - 1, DstPort: 65535}, api.Flow{Proto: 17, Dst: 1<<32 - 1, SrcPort: 65535}},
		{api.Flow{Proto: 17, Src: 7, Dst: 7, SrcPort: 53, DstPort: 1024}, api.Flow{Proto: 17, Src: 7, Dst: 7, SrcPort: 1024, DstPort: 53}},
		{api.Flow{Proto: 6, Src: 8, Dst: 7, SrcPort: 53, DstPort: 53}, api.Flow{Proto: 6, Src: 7, Dst: 8, SrcPort: 53, DstPort: 53}},
		{api.Flow{Proto: -1, Src: 1, Dst: 2, SrcPort: -3, DstPort: 65536}, api.Flow{Proto: -1, Src: 2, Dst: 1, SrcPort: 65536, DstPort: -3}},
		{api.Flow{Proto: 262, SrcPort: math.MinInt64, DstPort: math.MaxInt64}, api.Flow{Proto: 262, SrcPort: math.MaxInt64, DstPort: math.MinInt64}},
		{api.Flow{}, api.Flow{}},
	} {
		if got := inet.Back(x.there); got != x.back {
			t.Errorf("%+v: %+v; want %+v", x.there, got, x.back)
		}
	}
}

// TestBackTwice: P4.2: Back, twice, is the flow itself, of one that may not be, too; and it may be as the flow may.
func TestBackTwice(t *testing.T) {
	for _, f := range append(rightFlows(), wrongFlows()...) {
		b := inet.Back(f)
		want := api.Flow{Proto: f.Proto, Src: f.Dst, Dst: f.Src, SrcPort: f.DstPort, DstPort: f.SrcPort}
		if b != want || inet.Back(b) != f || inet.Right(b) != inet.Right(f) {
			t.Errorf("%+v: %+v, %+v", f, b, inet.Back(b))
		}
	}
}
