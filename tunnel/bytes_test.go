package tunnel_test

import (
	"bytes"
	"encoding/binary"
	"testing"

	"rutter/api"
	"rutter/tunnel"
)

// plain is a packet's bytes, told anew.
func plain(p api.Packet) []byte {
	b := []byte{1, byte(p.Kind), byte(p.Origin), byte(p.From), byte(p.To), byte(p.Port)}
	b = append(b, binary.BigEndian.AppendUint64(nil, uint64(p.Gen))[3:]...)
	b = append(b, binary.BigEndian.AppendUint64(nil, uint64(p.ID))[2:]...)
	b = binary.BigEndian.AppendUint16(b, uint16(len(p.Frame)))
	return append(b, p.Frame...)
}

// set is a packet's bytes, of which what stands at a place is changed.
func set(p api.Packet, at int, with ...byte) []byte {
	b := plain(p)
	copy(b[at:], with)
	return b
}

// encodes checks a packet's bytes.
func encodes(t *testing.T, p api.Packet, want []byte) {
	t.Helper()
	if b, e := tunnel.Encode(p); !bytes.Equal(b, want) || e != api.OK {
		t.Errorf("%+v: %.60q, %d; want %.60q", p, b, e, want)
	}
}

// noBytes checks that a packet has no bytes.
func noBytes(t *testing.T, p api.Packet) {
	t.Helper()
	if b, e := tunnel.Encode(p); len(b) != 0 || e != api.ErrArg {
		t.Errorf("%+v: %d bytes, %d", p, len(b), e)
	}
}

// decodes checks the packet of bytes.
func decodes(t *testing.T, b []byte, want api.Packet) {
	t.Helper()
	if p, e := tunnel.Decode(b); !same(p, want) || e != api.OK {
		t.Errorf("%.60q: %+v, %d; want %+v", b, p, e, want)
	}
}

// noPacket checks that bytes are none's, and that nothing is told beside it.
func noPacket(t *testing.T, b []byte) {
	t.Helper()
	if p, e := tunnel.Decode(b); !same(p, api.Packet{}) || e != api.ErrForm {
		t.Errorf("%d bytes, %.60q: %+v, %d", len(b), b, p, e)
	}
}

// TestEncode: P5.1: a packet's bytes stand where the chapter says.
func TestEncode(t *testing.T) {
	for _, x := range []struct {
		p    api.Packet
		want string
	}{
		{api.Packet{Kind: 1, Origin: 2, From: 2, To: 4, Port: 5, Gen: 0x01020304, ID: 0x0a0b0c0d0e, Frame: []byte("ABCDEFabcdef\x08\x00hi")},
			"\x01\x01\x02\x02\x04\x05\x00\x01\x02\x03\x04\x00\x0a\x0b\x0c\x0d\x0e\x00\x10ABCDEFabcdef\x08\x00hi"},
		{api.Packet{Kind: 2, Origin: 15, From: 14, To: 13, Port: 31, Gen: 1 << 32, ID: 1 << 40, Frame: []byte("ABCDEFabcdef\xff\xff")},
			"\x01\x02\x0f\x0e\x0d\x1f\x01\x00\x00\x00\x00\x01\x00\x00\x00\x00\x00\x00\x0eABCDEFabcdef\xff\xff"},
		{api.Packet{Kind: 1, To: 1, Gen: 1, Frame: make([]byte, 14)},
			"\x01\x01\x00\x00\x01\x00\x00\x00\x00\x00\x01\x00\x00\x00\x00\x00\x00\x00\x0e\x00\x00\x00\x00\x00\x00\x00\x00\x00\x00\x00\x00\x00\x00"},
		{api.Packet{Kind: 2, Origin: 1, From: 0, To: 2, Port: 3, Gen: 1<<32 - 1, ID: 1<<40 - 1, Frame: []byte("ABCDEFabcdef\x80\x35")},
			"\x01\x02\x01\x00\x02\x03\x00\xff\xff\xff\xff\x00\xff\xff\xff\xff\xff\x00\x0eABCDEFabcdef\x80\x35"},
	} {
		encodes(t, x.p, []byte(x.want))
		decodes(t, []byte(x.want), x.p)
	}
}

// TestEncodeRight: P5.1 and P5.2 at each edge of the packets that may be.
func TestEncodeRight(t *testing.T) {
	for _, p := range rightPackets() {
		encodes(t, p, plain(p))
		decodes(t, plain(p), p)
	}
}

// TestEncodeWrong: P5.1: ErrArg, and nothing, of a packet that may not be.
func TestEncodeWrong(t *testing.T) {
	for _, p := range wrongPackets() {
		noBytes(t, p)
	}
}

// TestEncodeByLength: P5.1: a frame's length counts, not the room behind it.
func TestEncodeByLength(t *testing.T) {
	room := frame(2000)
	encodes(t, normal(holds(room[:14])), plain(normal(sized(14))))
	encodes(t, normal(holds(room[:1514])), plain(normal(sized(1514))))
	noBytes(t, normal(holds(room[:13])))
	noBytes(t, normal(holds(room[:0])))
}

// TestDecodeWrong: P5.1: ErrForm of the bytes of what may not be, each number one beyond what may be.
func TestDecodeWrong(t *testing.T) {
	for _, p := range []api.Packet{normal(), forward()} {
		for _, v := range []byte{0, 2, 3, 129, 255} {
			noPacket(t, set(p, 0, v))
		}
		for _, c := range []change{kind(0), kind(3), kind(255), origin(16), origin(255), from(16), from(255), to(16), to(255), port(32), port(255)} {
			noPacket(t, plain(changed(p, []change{c})))
		}
		for _, c := range []change{gen(0), gen(1<<32 + 1), gen(1<<40 - 1), id(1<<40 + 1), id(1<<48 - 1)} {
			noPacket(t, plain(changed(p, []change{c})))
		}
		for _, c := range []change{sized(0), sized(1), sized(13), sized(1515), sized(1516), sized(65535)} {
			noPacket(t, plain(changed(p, []change{c})))
		}
	}
	noPacket(t, plain(normal(starts(16))))
	noPacket(t, nil)
	noPacket(t, []byte{})
}

// TestDecodeWays: P5.1: of each kind, from each chassis to each one, the bytes of what may be alone are a packet's.
func TestDecodeWays(t *testing.T) {
	for k := range api.Kind(4) {
		for n := range 17 * 17 * 17 {
			p := normal(kind(k), origin(n%17), from(n/17%17), to(n/289), sized(14))
			if mayBe(p) {
				decodes(t, plain(p), p)
				continue
			}
			noPacket(t, plain(p))
		}
	}
}

// TestDecodeCut: P5.1: bytes that are cut, and ones with more behind them, are none's.
func TestDecodeCut(t *testing.T) {
	for _, p := range append(rightPackets(), normal(sized(14)), forward(sized(1514))) {
		b := plain(p)
		for _, n := range []int{0, 1, 5, 6, 11, 17, 18, 19, 20, 32, len(b) - 2, len(b) - 1} {
			noPacket(t, b[:n])
			noPacket(t, bytes.Clone(b[:n]))
		}
		for _, n := range []int{1, 2, 14, 1500} {
			noPacket(t, append(bytes.Clone(b), make([]byte, n)...))
		}
		noPacket(t, append(bytes.Clone(b), b...))
		noPacket(t, append([]byte{1}, b...))
	}
	for n := range plain(forward()) {
		noPacket(t, plain(forward())[:n])
	}
}

// TestDecodeLength: P5.1: the length that stands ahead of the frame is how many bytes come.
func TestDecodeLength(t *testing.T) {
	for _, n := range []int{14, 15, 16, 255, 256, 257, 1512, 1513, 1514} {
		for _, p := range both(sized(n)) {
			decodes(t, plain(p), p)
			for m := range 1600 {
				if m != n {
					noPacket(t, set(p, 17, byte(m>>8), byte(m)))
				}
			}
			noPacket(t, set(p, 17, 255, 255))
		}
	}
}

// TestDecodeLengths: P5.1: of a frame of 14 to 1514 bytes alone there is a packet.
func TestDecodeLengths(t *testing.T) {
	for n := range 2000 {
		p := forward(sized(n))
		if is(n, 14, 1514) {
			decodes(t, plain(p), p)
			continue
		}
		noPacket(t, plain(p))
	}
	noPacket(t, make([]byte, 1<<20))
	noPacket(t, append(plain(normal(sized(1514))), make([]byte, 1<<20)...))
}

// TestDecodeByLength: P5.1: the room behind the bytes is no part of them.
func TestDecodeByLength(t *testing.T) {
	room := append(plain(forward()), plain(normal(sized(1514)))...)
	n := len(plain(forward()))
	decodes(t, room[:n], forward())
	noPacket(t, room[:n-1])
	noPacket(t, room[:n+1])
	noPacket(t, room[:0])
}
