package arp_test

import (
	"bytes"
	"encoding/binary"
	"math"
	"testing"

	"rutter/api"
	"rutter/arp"
)

// plain is an arp's bytes, told anew.
func plain(a arp.ARP) []byte {
	b := []byte("\x00\x01\x08\x00\x06\x04")
	b = binary.BigEndian.AppendUint16(b, uint16(a.Op))
	b = append(b, binary.BigEndian.AppendUint64(nil, a.SHA)[2:]...)
	b = binary.BigEndian.AppendUint32(b, a.SPA)
	b = append(b, binary.BigEndian.AppendUint64(nil, a.THA)[2:]...)
	return binary.BigEndian.AppendUint32(b, a.TPA)
}

// ordinary is an arp whose fields all differ, with that changed.
func ordinary(change ...func(a *arp.ARP)) arp.ARP {
	a := arp.ARP{Op: 0x1234, SHA: 0x010203040506, THA: 0x0a0b0c0d0e0f, SPA: 0x11121314, TPA: 0x21222324}
	for _, c := range change {
		c(&a)
	}
	return a
}

func op(n int) func(a *arp.ARP)     { return func(a *arp.ARP) { a.Op = n } }
func sha(n uint64) func(a *arp.ARP) { return func(a *arp.ARP) { a.SHA = n } }
func tha(n uint64) func(a *arp.ARP) { return func(a *arp.ARP) { a.THA = n } }
func spa(n uint32) func(a *arp.ARP) { return func(a *arp.ARP) { a.SPA = n } }
func tpa(n uint32) func(a *arp.ARP) { return func(a *arp.ARP) { a.TPA = n } }

// rightARPs are arps that may be: ordinary ones, and the edges of each field.
func rightARPs() []arp.ARP {
	l := []arp.ARP{{}, ordinary()}
	for _, n := range []int{0, 1, 2, 3, 4, 255, 256, 32767, 32768, 65534, 65535} {
		l = append(l, ordinary(op(n)))
	}
	for _, n := range []uint64{0, 1, 1<<32 - 1, 1 << 32, 1 << 40, 1 << 41, 1 << 47, 1<<48 - 2, 1<<48 - 1} {
		l = append(l, ordinary(sha(n)), ordinary(tha(n)), ordinary(sha(n), tha(n)))
	}
	for _, n := range []uint32{0, 1, 255, 1 << 16, 1<<31 - 1, 1 << 31, 1<<32 - 2, 1<<32 - 1} {
		l = append(l, ordinary(spa(n)), ordinary(tpa(n)), ordinary(spa(n), tpa(n)))
	}
	return append(l, arp.ARP{Op: 65535, SHA: 1<<48 - 1, THA: 1<<48 - 1, SPA: 1<<32 - 1, TPA: 1<<32 - 1})
}

// wrongMACs are numbers that are no addresses.
func wrongMACs() []uint64 {
	return []uint64{1 << 48, 1<<48 + 1, 1<<48 + 1<<41, 1 << 56, 1 << 62, 1<<63 - 1, 1 << 63, 1<<63 + 5, 1<<64 - 1<<48, math.MaxUint64 - 1, math.MaxUint64}
}

// wrongARPs are arps that may not be, each by one thing, and by all.
func wrongARPs() []arp.ARP {
	var l []arp.ARP
	for _, n := range []int{-1, -2, -65535, -65536, math.MinInt64, math.MinInt64 + 3, 65536, 65537, 65536 + 3, 1 << 32, 1<<32 + 1, math.MaxInt64} {
		l = append(l, ordinary(op(n)), arp.ARP{Op: n})
	}
	for _, n := range wrongMACs() {
		l = append(l, ordinary(sha(n)), ordinary(tha(n)), ordinary(sha(n), tha(n)), arp.ARP{SHA: n}, arp.ARP{THA: n})
	}
	return append(l, arp.ARP{Op: -1, SHA: 1 << 48, THA: math.MaxUint64, SPA: 1<<32 - 1, TPA: 1<<32 - 1})
}

// decodes checks the arp of bytes.
func decodes(t *testing.T, b []byte, want arp.ARP) {
	t.Helper()
	if a, e := arp.Decode(b); a != want || e != api.OK {
		t.Errorf("%q: %+v, %d; want %+v", b, a, e, want)
	}
}

// noARP checks that bytes are none's, and that nothing is told beside it.
func noARP(t *testing.T, b []byte) {
	t.Helper()
	if a, e := arp.Decode(b); a != (arp.ARP{}) || e != api.ErrForm {
		t.Errorf("%q: %+v, %d", b, a, e)
	}
}

// TestEncode: P3.1: an arp's bytes stand where the chapter says.
func TestEncode(t *testing.T) {
	for want, a := range map[string]arp.ARP{
		"\x00\x01\x08\x00\x06\x04\x12\x34\x01\x02\x03\x04\x05\x06\x11\x12\x13\x14\x0a\x0b\x0c\x0d\x0e\x0f\x21\x22\x23\x24": ordinary(),
		"\x00\x01\x08\x00\x06\x04\x00\x00\x00\x00\x00\x00\x00\x00\x00\x00\x00\x00\x00\x00\x00\x00\x00\x00\x00\x00\x00\x00": {},
		"\x00\x01\x08\x00\x06\x04\xff\xff\xff\xff\xff\xff\xff\xff\xff\xff\xff\xff\xff\xff\xff\xff\xff\xff\xff\xff\xff\xff": {Op: 65535, SHA: api.MaxMAC, THA: api.MaxMAC, SPA: math.MaxUint32, TPA: math.MaxUint32},
		"\x00\x01\x08\x00\x06\x04\x00\x01\x02\x00\x00\x00\x00\x03\x0a\x00\x00\x03\x00\x00\x00\x00\x00\x00\x0a\x00\x00\x04": {Op: 1, SHA: 1<<41 + 3, SPA: 10<<24 + 3, TPA: 10<<24 + 4},
	} {
		if b, e := arp.Encode(a); string(b) != want || e != api.OK {
			t.Errorf("%+v: %q, %d; want %q", a, b, e, want)
		}
		decodes(t, []byte(want), a)
	}
}

// TestEncodeRight: P3.1 and P3.2 at each edge of the arps that may be.
func TestEncodeRight(t *testing.T) {
	for _, a := range rightARPs() {
		b, e := arp.Encode(a)
		if !bytes.Equal(b, plain(a)) || len(b) != 28 || e != api.OK {
			t.Errorf("%+v: %q, %d", a, b, e)
		}
		decodes(t, b, a)
	}
}

// TestEncodeWrong: P3.1: ErrArg, and nothing, of an arp that may not be.
func TestEncodeWrong(t *testing.T) {
	for _, a := range wrongARPs() {
		if b, e := arp.Encode(a); len(b) != 0 || e != api.ErrArg {
			t.Errorf("%+v: %q, %d", a, b, e)
		}
	}
}

// TestDecodeLengths: P3.1: 28 bytes are an arp's, fewer none's; more behind them don't matter.
func TestDecodeLengths(t *testing.T) {
	noARP(t, nil)
	noARP(t, []byte{})
	all := plain(ordinary())
	for n := range 28 {
		noARP(t, all[:n])
		noARP(t, bytes.Clone(all[:n]))
	}
	decodes(t, all, ordinary())
	for _, n := range []int{1, 2, 18, 28, 1472, 65536, 1 << 20} {
		decodes(t, append(bytes.Clone(all), make([]byte, n)...), ordinary())
		decodes(t, append(bytes.Clone(all), bytes.Repeat([]byte{255}, n)...), ordinary())
	}
	decodes(t, bytes.Join([][]byte{all, plain(arp.ARP{})}, nil), ordinary())
}

// TestDecodeFixed: P3.1: the four fixed numbers are just these.
func TestDecodeFixed(t *testing.T) {
	set := func(at int, with ...byte) []byte {
		b := plain(ordinary(op(3)))
		copy(b[at:], with)
		return b
	}
	decodes(t, set(0, 0, 1, 8, 0, 6, 4), ordinary(op(3)))
	for _, b := range [][]byte{
		set(0, 0, 0), set(0, 0, 2), set(0, 1, 0), set(0, 1, 1), set(0, 255, 255),
		set(2, 7, 255), set(2, 8, 1), set(2, 0, 8), set(2, 8, 6), set(2, 0, 0),
		set(4, 5), set(4, 7), set(4, 0), set(4, 255), set(4, 4, 6),
		set(5, 3), set(5, 5), set(5, 0), set(5, 255), set(5, 16),
	} {
		noARP(t, b)
		noARP(t, append(b, b...))
	}
	noARP(t, make([]byte, 28))
	noARP(t, make([]byte, 1500))
	noARP(t, append([]byte{0}, plain(ordinary())...))
	noARP(t, bytes.Join([][]byte{make([]byte, 28), plain(ordinary())}, nil))
}

// TestDecodeBits: P3.1: of the first 6 bytes each bit counts, and of the others each is an arp's.
func TestDecodeBits(t *testing.T) {
	for k := range 8 * 28 {
		b := plain(ordinary())
		b[k/8] ^= 1 << (k % 8)
		if k/8 < 6 {
			noARP(t, b)
			continue
		}
		a, e := arp.Decode(b)
		if e != api.OK || a == ordinary() || !bytes.Equal(plain(a), b) {
			t.Errorf("bit %d of byte %d: %+v, %d", k%8, k/8, a, e)
		}
	}
}

// TestDecodeByLength: P3.1: the room behind the bytes is no part of them.
func TestDecodeByLength(t *testing.T) {
	room := append(plain(ordinary()), "room"...)
	decodes(t, room[:28], ordinary())
	noARP(t, room[:27])
	noARP(t, room[:0])
}

// chance tells numbers that look like chance, the same in each run.
type chance uint64

func (c *chance) below(n int) int {
	*c = *c*6364136223846793005 + 1442695040888963407
	return int(uint64(*c) >> 33 % uint64(n))
}

func (c *chance) bytes(n int) []byte {
	b := make([]byte, n)
	for i := range b {
		b[i] = byte(c.below(256))
	}
	return b
}

func (c *chance) mac() uint64 { return uint64(c.below(1<<24))<<24 | uint64(c.below(1<<24)) }

func (c *chance) ip() uint32 { return uint32(c.below(1<<16)<<16 | c.below(1<<16)) }

// arp is one of any fields; its OP is a small one half of the times.
func (c *chance) arp() arp.ARP {
	a := arp.ARP{Op: c.below(5), SHA: c.mac(), THA: c.mac(), SPA: c.ip(), TPA: c.ip()}
	if c.below(2) == 0 {
		a.Op = c.below(65536)
	}
	if c.below(2) == 0 {
		a.TPA = a.SPA
	}
	return a
}

// TestThereAndBack: P3.2: an arp is decoded from its bytes, also with more behind them.
func TestThereAndBack(t *testing.T) {
	c := chance(1)
	for range 5000 {
		a := c.arp()
		b, e := arp.Encode(a)
		if e != api.OK || !bytes.Equal(b, plain(a)) {
			t.Fatalf("%+v: %q, %d", a, b, e)
		}
		decodes(t, b, a)
		decodes(t, append(b, c.bytes(c.below(40))...), a)
	}
}

// backAgain checks that what is decoded has just the first 28 bytes, and that all others are told.
func backAgain(t *testing.T, b []byte) {
	t.Helper()
	if len(b) < 28 || !bytes.HasPrefix(b, []byte("\x00\x01\x08\x00\x06\x04")) {
		noARP(t, b)
		return
	}
	a, e := arp.Decode(b)
	if e != api.OK || !bytes.Equal(plain(a), b[:28]) {
		t.Fatalf("%q: %+v, %d", b, a, e)
	}
	if c, e := arp.Encode(a); e != api.OK || !bytes.Equal(c, b[:28]) {
		t.Fatalf("%q: %q, %d", b, c, e)
	}
}

// TestBackAgain: P3.2: what is decoded has just these bytes.
func TestBackAgain(t *testing.T) {
	c := chance(2)
	for range 5000 {
		b := append(plain(c.arp())[:6], c.bytes(c.below(50))...)
		backAgain(t, b)
		b[c.below(6)] += byte(c.below(3))
		backAgain(t, b)
		backAgain(t, c.bytes(c.below(50)))
	}
}

// FuzzDecode: as TestBackAgain; go test runs the seeds alone.
func FuzzDecode(f *testing.F) {
	f.Add(plain(ordinary()))
	for _, n := range []int{0, 27, 28, 29} {
		f.Add(make([]byte, n))
	}
	f.Fuzz(backAgain)
}

// TestBytesKept: P2: the same calls answer the same; what is handed in is neither written into nor kept, and an answer is new memory.
func TestBytesKept(t *testing.T) {
	x, _ := arp.Encode(ordinary())
	y, _ := arp.Encode(ordinary())
	clear(x[:cap(x)])
	if !bytes.Equal(y, plain(ordinary())) {
		t.Errorf("two answers share memory: %q", y)
	}
	b := append(plain(ordinary()), "room"...)
	was := bytes.Clone(b)
	decodes(t, b[:28], ordinary())
	noARP(t, b[:27])
	noARP(t, b[1:])
	decodes(t, b, ordinary())
	if !bytes.Equal(b, was) {
		t.Errorf("written into: %q", b)
	}
}
