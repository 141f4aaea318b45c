package arp_test

import (
	"bytes"
	"math"
	"testing"

	"rutter/api"
	"rutter/arp"
	"rutter/ether"
)

// carry is a frame with a load, whose own addresses are none of the load's.
func carry(kind int, load []byte) api.Frame {
	return api.Frame{Dst: 0x313233343536, Src: 0x414243444546, Type: kind, Load: load}
}

// telling is an arp that announces 0x010203040506 in a frame of ARP, with that changed.
func telling(change ...func(a *arp.ARP)) arp.ARP {
	return ordinary(append([]func(a *arp.ARP){op(1), tpa(ordinary().SPA)}, change...)...)
}

// announces checks which address a frame announces.
func announces(t *testing.T, f api.Frame, want uint64) {
	t.Helper()
	if mac, ok := arp.Announces(f); mac != want || !ok {
		t.Errorf("%x %x %#x %q: %x, %t; want %x", f.Dst, f.Src, f.Type, f.Load, mac, ok, want)
	}
}

// silent checks that a frame announces none, and that nothing is told beside it.
func silent(t *testing.T, f api.Frame) {
	t.Helper()
	if mac, ok := arp.Announces(f); mac != 0 || ok {
		t.Errorf("%x %x %#x, %d bytes: %x, %t", f.Dst, f.Src, f.Type, len(f.Load), mac, ok)
	}
}

// otherTypes are those that announce nothing.
func otherTypes() []int {
	return []int{0, 1, 2, 3, 6, 0x35, api.TypeIPv4, api.TypeARP - 1, api.TypeARP + 1, api.TypeRARP - 1, api.TypeRARP + 1, 0x0608, 0x3580, 0x86dd, 65535}
}

// TestAnnouncesOps: P3.1: RARP with OP 3, ARP with 1 and 2, and none else.
func TestAnnouncesOps(t *testing.T) {
	for _, n := range []int{0, 1, 2, 3, 4, 5, 255, 256, 257, 258, 259, 0x0100, 0x0200, 0x0300, 65535} {
		load := plain(telling(op(n)))
		if n == 3 {
			announces(t, carry(api.TypeRARP, load), 0x010203040506)
		} else {
			silent(t, carry(api.TypeRARP, load))
		}
		if n == 1 || n == 2 {
			announces(t, carry(api.TypeARP, load), 0x010203040506)
		} else {
			silent(t, carry(api.TypeARP, load))
		}
		for _, kind := range otherTypes() {
			silent(t, carry(kind, load))
		}
	}
}

// TestAnnouncesIPs: P3.1: with ARP, SPA and TPA are the same; with RARP they don't matter.
func TestAnnouncesIPs(t *testing.T) {
	ips := []uint32{0, 1, 255, 256, 1 << 16, 1 << 24, 0x0a000003, 1<<31 - 1, 1 << 31, 1<<32 - 2, 1<<32 - 1}
	for _, x := range ips {
		for _, y := range ips {
			load := func(n int) []byte { return plain(telling(op(n), spa(x), tpa(y))) }
			announces(t, carry(api.TypeRARP, load(3)), 0x010203040506)
			for _, n := range []int{1, 2} {
				if x == y {
					announces(t, carry(api.TypeARP, load(n)), 0x010203040506)
				} else {
					silent(t, carry(api.TypeARP, load(n)))
				}
			}
		}
	}
	for k := range 32 {
		silent(t, carry(api.TypeARP, plain(telling(tpa(ordinary().SPA^1<<k)))))
	}
}

// TestAnnouncesSHA: P3.1: it is SHA, whatever it is, not THA, nor one of the frame's own.
func TestAnnouncesSHA(t *testing.T) {
	for _, mac := range []uint64{0, 1, 1<<32 - 1, 1 << 32, 1 << 40, 1<<41 + 3, 1 << 47, api.MaxMAC - 1, api.MaxMAC} {
		for _, other := range []uint64{0, mac, 0x0a0b0c0d0e0f, api.MaxMAC} {
			announces(t, carry(api.TypeRARP, plain(telling(op(3), sha(mac), tha(other)))), mac)
			announces(t, carry(api.TypeARP, plain(telling(op(1), sha(mac), tha(other)))), mac)
			announces(t, carry(api.TypeARP, plain(telling(op(2), sha(mac), tha(other)))), mac)
			announces(t, api.Frame{Dst: other, Src: other, Type: api.TypeARP, Load: plain(telling(sha(mac)))}, mac)
		}
	}
}

// TestAnnouncesLoads: P3.1: the load's first 28 bytes are an arp's; more behind them don't matter.
func TestAnnouncesLoads(t *testing.T) {
	for kind, a := range map[int]arp.ARP{api.TypeRARP: telling(op(3)), api.TypeARP: telling()} {
		silent(t, carry(kind, nil))
		silent(t, carry(kind, []byte{}))
		load := append(plain(a), bytes.Repeat([]byte{255}, 1472)...)
		for n := range 28 {
			silent(t, carry(kind, load[:n]))
		}
		for _, n := range []int{28, 29, 46, 56, 1499, 1500} {
			announces(t, carry(kind, load[:n]), 0x010203040506)
		}
		for k := range 8 * 6 {
			other := plain(a)
			other[k/8] ^= 1 << (k % 8)
			silent(t, carry(kind, other))
		}
		silent(t, carry(kind, append([]byte{0}, plain(a)...)))
		silent(t, carry(kind, make([]byte, 28)))
	}
}

// TestAnnouncesWrong: P3.1: 0, false of a frame that may not be, whatever its load.
func TestAnnouncesWrong(t *testing.T) {
	for kind, a := range map[int]arp.ARP{api.TypeRARP: telling(op(3)), api.TypeARP: telling()} {
		right := carry(kind, plain(a))
		announces(t, right, 0x010203040506)
		for _, mac := range wrongMACs() {
			silent(t, api.Frame{Dst: mac, Src: right.Src, Type: kind, Load: right.Load})
			silent(t, api.Frame{Dst: right.Dst, Src: mac, Type: kind, Load: right.Load})
		}
		for _, n := range []int{1473, 1474, 65536, 1 << 20} {
			silent(t, carry(kind, append(plain(a), make([]byte, n)...)))
		}
		for _, n := range []int{65536 + kind, 1<<32 + kind, kind - 65536, math.MinInt64 + kind, -kind, -1, 65536, math.MinInt64, math.MaxInt64} {
			silent(t, carry(n, right.Load))
		}
	}
	silent(t, api.Frame{})
}

// TestAnnouncesAny: P3.1 of any arps, in frames of any type.
func TestAnnouncesAny(t *testing.T) {
	c := chance(3)
	kinds := append(otherTypes(), api.TypeARP, api.TypeARP, api.TypeARP, api.TypeRARP, api.TypeRARP, api.TypeRARP)
	for range 20000 {
		a, kind := c.arp(), kinds[c.below(len(kinds))]
		f := carry(kind, append(plain(a), c.bytes(c.below(8))...))
		if kind == api.TypeRARP && a.Op == 3 || kind == api.TypeARP && a.Op >= 1 && a.Op <= 2 && a.SPA == a.TPA {
			announces(t, f, a.SHA)
		} else {
			silent(t, f)
		}
	}
}

// TestRARP: P3.1 and P3.2: a frame from an address to all, whose load is an arp's; it announces that address.
func TestRARP(t *testing.T) {
	for _, mac := range []uint64{0, 1, 1<<32 - 1, 1 << 32, 1 << 40, 1<<41 + 3, 1 << 47, 1<<48 - 2, 1<<48 - 1} {
		f, e := arp.RARP(mac)
		if e != api.OK || f.Dst != 1<<48-1 || f.Src != mac || f.Type != 0x8035 || !ether.Right(f) {
			t.Errorf("%x: %x %x %#x, %d", mac, f.Dst, f.Src, f.Type, e)
		}
		if want := plain(arp.ARP{Op: 3, SHA: mac, THA: mac}); !bytes.Equal(f.Load, want) {
			t.Errorf("%x: %q; want %q", mac, f.Load, want)
		}
		announces(t, f, mac)
	}
}

// TestRARPBytes: P3.1: all of a frame, as it goes.
func TestRARPBytes(t *testing.T) {
	f, _ := arp.RARP(0x010203040506)
	b, e := ether.Encode(f)
	want := "\xff\xff\xff\xff\xff\xff\x01\x02\x03\x04\x05\x06\x80\x35" +
		"\x00\x01\x08\x00\x06\x04\x00\x03\x01\x02\x03\x04\x05\x06\x00\x00\x00\x00\x01\x02\x03\x04\x05\x06\x00\x00\x00\x00"
	if string(b) != want || e != api.OK {
		t.Errorf("%q, %d; want %q", b, e, want)
	}
}

// TestRARPAny: P3.2: of any address, and of each port's.
func TestRARPAny(t *testing.T) {
	c := chance(4)
	for i := range 5000 {
		mac := c.mac()
		if i < api.MaxPorts {
			mac = ether.MAC(i)
		}
		f, e := arp.RARP(mac)
		if e != api.OK {
			t.Fatalf("%x: %d", mac, e)
		}
		announces(t, f, mac)
	}
}

// TestRARPWrong: P3.1: ErrArg, and nothing, if there is no such address.
func TestRARPWrong(t *testing.T) {
	for _, mac := range wrongMACs() {
		if f, e := arp.RARP(mac); e != api.ErrArg || f.Dst != 0 || f.Src != 0 || f.Type != 0 || len(f.Load) != 0 {
			t.Errorf("%x: %x %x %#x %q, %d", mac, f.Dst, f.Src, f.Type, f.Load, e)
		}
	}
}

// TestFramesKept: P2: the same calls answer the same; a load is neither written into nor kept, and an answer is new memory.
func TestFramesKept(t *testing.T) {
	f, _ := arp.RARP(5)
	g, _ := arp.RARP(5)
	clear(f.Load[:cap(f.Load)])
	announces(t, g, 5)
	silent(t, f)
	room := append(plain(telling()), "room"...)
	was := bytes.Clone(room)
	announces(t, carry(api.TypeARP, room[:28]), 0x010203040506)
	silent(t, carry(api.TypeRARP, room[:28]))
	silent(t, carry(api.TypeARP, room[:27]))
	announces(t, carry(api.TypeARP, room[:28]), 0x010203040506)
	if !bytes.Equal(room, was) {
		t.Errorf("written into: %q", room)
	}
}
