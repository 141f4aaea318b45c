package ether_test

import (
	"bytes"
	"encoding/binary"
	"testing"

	"rutter/api"
	"rutter/ether"
)

// plain is a frame's bytes, told anew.
func plain(f api.Frame) []byte {
	b := binary.BigEndian.AppendUint64(nil, f.Dst)[2:]
	b = append(b, binary.BigEndian.AppendUint64(nil, f.Src)[2:]...)
	b = binary.BigEndian.AppendUint16(b, uint16(f.Type))
	return append(b, f.Load...)
}

// same holds two frames against each other without the program.
func same(a, b api.Frame) bool {
	return a.Dst == b.Dst && a.Src == b.Src && a.Type == b.Type && string(a.Load) == string(b.Load)
}

// decodes checks the frame of bytes.
func decodes(t *testing.T, b []byte, want api.Frame) {
	t.Helper()
	if f, e := ether.Decode(b); !same(f, want) || e != api.OK {
		t.Errorf("%d bytes: %x %x %d %q, %d", len(b), f.Dst, f.Src, f.Type, f.Load, e)
	}
}

// noFrame checks that bytes are none's, and that nothing is told beside it.
func noFrame(t *testing.T, b []byte) {
	t.Helper()
	if f, e := ether.Decode(b); !same(f, api.Frame{}) || e != api.ErrForm {
		t.Errorf("%d bytes: %x %x %d, %d bytes, %d", len(b), f.Dst, f.Src, f.Type, len(f.Load), e)
	}
}

// TestEncode: P2.1: a frame's bytes stand where the chapter says.
func TestEncode(t *testing.T) {
	for want, f := range map[string]api.Frame{
		"\x01\x02\x03\x04\x05\x06\x0a\x0b\x0c\x0d\x0e\x0f\x08\x00load":         frame(),
		"\x00\x00\x00\x00\x00\x00\x00\x00\x00\x00\x00\x00\x00\x00":             {},
		"\xff\xff\xff\xff\xff\xff\xff\xff\xff\xff\xff\xff\xff\xff\xff":         frame(dst(api.MaxMAC), src(api.MaxMAC), kind(65535), load([]byte{255})),
		"\x02\x00\x00\x00\x00\x03\x00\x00\x00\x00\x00\x00\x08\x00":             {Dst: ether.MAC(3), Type: api.TypeIPv4},
		"\x80\x00\x00\x00\x00\x01\x01\x00\x00\x00\x00\x00\x80\x35\x00\x01\x00": {Dst: 1<<47 + 1, Src: 1 << 40, Type: api.TypeRARP, Load: []byte("\x00\x01\x00")},
	} {
		if b, e := ether.Encode(f); string(b) != want || e != api.OK {
			t.Errorf("%q, %d; want %q", b, e, want)
		}
		decodes(t, []byte(want), f)
	}
}

// TestEncodeRight: P2.1 and P2.2 at each edge of the frames that may be.
func TestEncodeRight(t *testing.T) {
	for i, f := range rightFrames() {
		b, e := ether.Encode(f)
		if !bytes.Equal(b, plain(f)) || len(b) != 14+len(f.Load) || e != api.OK {
			t.Errorf("%d: %q, %d", i, b, e)
		}
		decodes(t, b, f)
	}
}

// TestEncodeWrong: P2.1: ErrArg, and nothing, of a frame that may not be.
func TestEncodeWrong(t *testing.T) {
	for i, f := range wrongFrames() {
		if b, e := ether.Encode(f); len(b) != 0 || e != api.ErrArg {
			t.Errorf("%d: %d bytes, %d", i, len(b), e)
		}
	}
}

// TestDecodeLengths: P2.1: from 14 to 1514 bytes are a frame's, whatever they are.
func TestDecodeLengths(t *testing.T) {
	for _, c := range []byte{0, 1, 0x7f, 0x80, 0xff} {
		all := bytes.Repeat([]byte{c}, 3000)
		mac := binary.BigEndian.Uint64(append([]byte{0, 0}, all[:6]...))
		for n := range all {
			if n < 14 || n > 1514 {
				noFrame(t, all[:n])
				continue
			}
			decodes(t, all[:n], api.Frame{Dst: mac, Src: mac, Type: int(c)*256 + int(c), Load: all[14:n]})
		}
	}
}

// TestDecodeWrong: P2.1: ErrForm, and nothing, of bytes that are none's.
func TestDecodeWrong(t *testing.T) {
	noFrame(t, nil)
	noFrame(t, []byte{})
	noFrame(t, []byte("\x01\x02\x03\x04\x05\x06\x0a\x0b\x0c\x0d\x0e\x0f\x08"))
	for _, n := range []int{1515, 1516, 1528, 65535, 65536, 65536 + 14, 65536 + 100, 1 << 20} {
		noFrame(t, make([]byte, n))
	}
}

// TestDecodeByLength: P2.1: the room behind the bytes is no part of them.
func TestDecodeByLength(t *testing.T) {
	room := plain(frame(load([]byte("loads of it"))))
	decodes(t, room[:18], frame())
	decodes(t, room[:14], frame(load(nil)))
	noFrame(t, room[:13])
	decodes(t, make([]byte, 1514, 4000), api.Frame{Load: make([]byte, 1500)})
}

// chance tells numbers that look like chance, the same in each run.
type chance uint64

func (c *chance) below(n int) int {
	*c = *c*6364136223846793005 + 1442695040888963407
	return int(uint64(*c) >> 33 % uint64(n))
}

func (c *chance) bytes(n int) []byte {
	b := make([]byte, n)
	for i := range b {
		b[i] = byte(c.below(256))
	}
	return b
}

func (c *chance) mac() uint64 {
	return uint64(c.below(1<<24))<<24 | uint64(c.below(1<<24))
}

// TestThereAndBack: P2.2: a frame is decoded from its bytes.
func TestThereAndBack(t *testing.T) {
	c := chance(1)
	for i := range 5000 {
		f := api.Frame{Dst: c.mac(), Src: c.mac(), Type: c.below(65536), Load: c.bytes(c.below(2) * c.below(1501))}
		b, e := ether.Encode(f)
		if e != api.OK || !bytes.Equal(b, plain(f)) {
			t.Fatalf("%d: %v: %q, %d", i, f, b, e)
		}
		if g, e := ether.Decode(b); e != api.OK || !same(f, g) || !ether.Same(f, g) {
			t.Fatalf("%d: %v: %v, %d", i, f, g, e)
		}
	}
}

// backAgain checks that what is decoded may be, and has just the bytes it is of.
func backAgain(t *testing.T, b []byte) {
	t.Helper()
	f, e := ether.Decode(b)
	if len(b) < 14 || len(b) > 1514 {
		noFrame(t, b)
		return
	}
	if e != api.OK || !ether.Right(f) || !bytes.Equal(plain(f), b) {
		t.Fatalf("%q: %v, %d", b, f, e)
	}
	if c, e := ether.Encode(f); e != api.OK || !bytes.Equal(c, b) {
		t.Fatalf("%q: %q, %d", b, c, e)
	}
}

// TestBackAgain: P2.2: what is decoded has just these bytes.
func TestBackAgain(t *testing.T) {
	c := chance(2)
	for range 5000 {
		backAgain(t, c.bytes(c.below(40)))
		backAgain(t, c.bytes(c.below(1600)))
	}
}

// FuzzDecode: as TestBackAgain; go test runs the seeds alone.
func FuzzDecode(f *testing.F) {
	f.Add([]byte("\x01\x02\x03\x04\x05\x06\x0a\x0b\x0c\x0d\x0e\x0f\x08\x00load"))
	for _, n := range []int{0, 13, 14, 1514, 1515} {
		f.Add(make([]byte, n))
	}
	f.Fuzz(backAgain)
}

// TestSameAgain: P2: the same calls answer the same, whatever was called between.
func TestSameAgain(t *testing.T) {
	frames := append(rightFrames(), wrongFrames()...)
	for i, f := range frames {
		a, e := ether.Encode(f)
		ether.Encode(frames[len(frames)-1-i])
		ether.Decode(make([]byte, i))
		b, d := ether.Encode(f)
		if !bytes.Equal(a, b) || e != d {
			t.Fatalf("%d: %q %d, %q %d", i, a, e, b, d)
		}
	}
}

// TestEncodeKeepsNothing: the load is neither written into nor kept, and an answer is new memory.
func TestEncodeKeepsNothing(t *testing.T) {
	room := []byte("loadroom")
	f := frame(load(room[:4]))
	a, _ := ether.Encode(f)
	b, _ := ether.Encode(f)
	for i := range a[:cap(a)] {
		a[:cap(a)][i] = 'z'
	}
	if string(room) != "loadroom" || !bytes.Equal(b, plain(f)) {
		t.Errorf("written into: %q %q", room, b)
	}
	copy(room, "yyyyyyyy")
	if !bytes.Equal(b, plain(frame())) {
		t.Errorf("kept: %q", b)
	}
}

// TestDecodeKeepsNothing: the bytes are neither written into nor kept, and the load is new memory.
func TestDecodeKeepsNothing(t *testing.T) {
	room := append(plain(frame()), "room"...)
	was := bytes.Clone(room)
	f, _ := ether.Decode(room[:18])
	g, _ := ether.Decode(room[:18])
	for i := range f.Load[:cap(f.Load)] {
		f.Load[:cap(f.Load)][i] = 'z'
	}
	_ = append(f.Load, "zzzz"...)
	if !bytes.Equal(room, was) || !same(g, frame()) {
		t.Errorf("written into: %q %q", room, g.Load)
	}
	copy(room, make([]byte, len(room)))
	if !same(g, frame()) {
		t.Errorf("kept: %q", g.Load)
	}
	none, _ := ether.Decode(was[:14])
	_ = append(none.Load, "zzzz"...)
	if !bytes.Equal(was, append(plain(frame()), "room"...)) {
		t.Errorf("written behind: %q", was)
	}
}
