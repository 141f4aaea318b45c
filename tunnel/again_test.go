package tunnel_test

import (
	"math"
	"testing"

	"rutter/api"
	"rutter/tunnel"
)

// forwards checks a packet, forwarded.
func forwards(t *testing.T, p api.Packet, to, gen int, want api.Packet) {
	t.Helper()
	if q, e := tunnel.Again(p, to, gen); !same(q, want) || e != api.OK {
		t.Errorf("%+v, to %d, %d: %+v, %d; want %+v", p, to, gen, q, e, want)
	}
}

// stays checks that a packet isn't forwarded, and that nothing is told beside it.
func stays(t *testing.T, p api.Packet, to, gen int, want api.Errno) {
	t.Helper()
	if q, e := tunnel.Again(p, to, gen); !same(q, api.Packet{}) || e != want {
		t.Errorf("%+v, to %d, %d: %+v, %d; want %d", p, to, gen, q, e, want)
	}
}

// gens are generations that may be, and ones that may not.
func gens() ([]int, []int) {
	return []int{1, 2, 3, 255, 256, 1<<32 - 1, 1 << 32}, []int{0, -1, -1 << 32, 1<<32 + 1, 1<<32 + 2, 1 << 40, 1 << 48, math.MinInt64, math.MaxInt64}
}

// nowhere are numbers that are no chassis.
func nowhere() []int {
	return []int{-1, -2, 16, 17, 255, 256, 256 + 7, 1<<32 + 7, math.MinInt64, math.MinInt64 + 7, math.MaxInt64}
}

// TestAgain: P5.1: of Forward, from where it went, to that chassis, with that generation, and else the same.
func TestAgain(t *testing.T) {
	p := api.Packet{Kind: 1, Origin: 0, From: 0, To: 1, Port: 7, Gen: 5, ID: 11, Frame: frame(14)}
	forwards(t, p, 2, 6, api.Packet{Kind: 2, Origin: 0, From: 1, To: 2, Port: 7, Gen: 6, ID: 11, Frame: frame(14)})
	forwards(t, p, 15, 5, api.Packet{Kind: 2, Origin: 0, From: 1, To: 15, Port: 7, Gen: 5, ID: 11, Frame: frame(14)})
	p = api.Packet{Kind: 1, Origin: 15, From: 15, To: 14, Port: 31, Gen: 1 << 32, ID: 1 << 40, Frame: frame(1514)}
	forwards(t, p, 0, 1, api.Packet{Kind: 2, Origin: 15, From: 14, To: 0, Port: 31, Gen: 1, ID: 1 << 40, Frame: frame(1514)})
	p = api.Packet{Kind: 1, Origin: 9, From: 9, To: 0, Gen: 1, Frame: frame(60)}
	forwards(t, p, 3, 1<<32, api.Packet{Kind: 2, Origin: 9, From: 0, To: 3, Gen: 1 << 32, Frame: frame(60)})
}

// TestAgainAll: P5.1: what may be, and may not be, at each edge, whatever the chassis and the generation are.
func TestAgainAll(t *testing.T) {
	right, wrong := gens()
	for _, p := range append(rightPackets(), wrongPackets()...) {
		for n := -2; n <= 17; n++ {
			for _, g := range append(append([]int{p.Gen}, right...), wrong...) {
				want := p
				want.Kind, want.From, want.To, want.Gen = 2, p.To, n, g
				switch {
				case !mayBe(p):
					stays(t, p, n, g, api.ErrArg)
				case p.Kind == 2:
					stays(t, p, n, g, api.ErrState)
				case !mayBe(want):
					stays(t, p, n, g, api.ErrArg)
				default:
					forwards(t, p, n, g, want)
				}
			}
		}
	}
}

// TestAgainTo: P5.1: to no chassis, to where it started, and to where it is, it is not forwarded.
func TestAgainTo(t *testing.T) {
	p := normal()
	for _, n := range append(nowhere(), p.Origin, p.From, p.To) {
		stays(t, p, n, 1, api.ErrArg)
		stays(t, p, n, p.Gen, api.ErrArg)
	}
	for _, n := range []int{0, 1, 2, 4, 6, 14, 15} {
		forwards(t, p, n, 1, forward(to(n), gen(1)))
	}
}

// TestAgainGen: P5.1: any generation that may be, also one less than its own, and no other.
func TestAgainGen(t *testing.T) {
	right, wrong := gens()
	for _, own := range right {
		for _, g := range right {
			forwards(t, normal(gen(own)), 8, g, forward(gen(g)))
		}
		for _, g := range wrong {
			stays(t, normal(gen(own)), 8, g, api.ErrArg)
		}
	}
}

// TestAgainOrder: P5.1: where several are wrong, the error that the chapter names first.
func TestAgainOrder(t *testing.T) {
	for _, n := range append(nowhere(), 3, 5, 8, 9) {
		for _, g := range []int{0, 1, 1 << 32, 1<<32 + 1, -1} {
			stays(t, forward(), n, g, api.ErrState)
			stays(t, forward(gen(0)), n, g, api.ErrArg)
			stays(t, forward(to(5)), n, g, api.ErrArg)
			stays(t, forward(to(3)), n, g, api.ErrArg)
			stays(t, forward(from(3)), n, g, api.ErrArg)
			stays(t, forward(holds(nil)), n, g, api.ErrArg)
			stays(t, normal(holds(nil)), n, g, api.ErrArg)
			stays(t, normal(kind(0)), n, g, api.ErrArg)
			stays(t, normal(kind(3)), n, g, api.ErrArg)
			stays(t, api.Packet{}, n, g, api.ErrArg)
		}
	}
}

// TestAgainMends: P5.1: a packet that may not be is not forwarded, also where what would come may be.
func TestAgainMends(t *testing.T) {
	for _, p := range []api.Packet{normal(kind(0)), normal(kind(3)), normal(from(-1)), normal(from(4)), normal(from(5)), normal(from(16)), normal(gen(0)), normal(gen(1<<32 + 1))} {
		stays(t, p, 8, 1, api.ErrArg)
	}
}

// TestNeverTwice: P5.3: what was forwarded went to three chassis, each another one, and is never forwarded again, to whichever chassis, by its bytes neither.
func TestNeverTwice(t *testing.T) {
	forwarded := 0
	for n := range 16 * 16 * 16 {
		a, b, c := n%16, n/16%16, n/256
		q, e := tunnel.Again(normal(starts(a), to(b), gen(2)), c, 3)
		if e != api.OK {
			continue
		}
		forwarded++
		if a == b || b == c || c == a || q.Origin != a || q.From != b || q.To != c || q.Kind != 2 || !tunnel.Right(q) {
			t.Fatalf("%d %d %d: %+v", a, b, c, q)
		}
		came, e := tunnel.Decode(plain(q))
		if e != api.OK {
			t.Fatalf("%+v: %d", q, e)
		}
		for d := -1; d <= 16; d++ {
			for _, g := range []int{0, 1, 3, 4, 1 << 32, 1<<32 + 1} {
				stays(t, q, d, g, api.ErrState)
				stays(t, came, d, g, api.ErrState)
			}
		}
	}
	if forwarded != 16*15*14 {
		t.Errorf("%d were forwarded", forwarded)
	}
}

// TestNeverTwiceAny: P5.3: a packet of Forward that may be isn't forwarded, wherever it came from.
func TestNeverTwiceAny(t *testing.T) {
	for n := range 16 * 16 * 16 {
		p := forward(origin(n%16), from(n/16%16), to(n/256))
		if !mayBe(p) {
			continue
		}
		for d := -1; d <= 16; d++ {
			stays(t, p, d, p.Gen, api.ErrState)
		}
	}
}
