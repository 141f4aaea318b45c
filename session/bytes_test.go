package session_test

import (
	"bytes"
	"encoding/binary"
	"testing"

	"rutter/api"
	"rutter/session"
)

// plainBytes are a letter's bytes, told anew.
func plainBytes(l session.Letter) []byte {
	var b []byte
	for i, n := range []int{l.Mine, l.Peer, l.Ack, l.Seq} {
		b = append(b, binary.BigEndian.AppendUint64(nil, uint64(n))[3-i/2:]...)
	}
	b = binary.BigEndian.AppendUint16(b, uint16(len(l.Body)))
	return append(b, l.Body...)
}

// set is a letter's bytes, of which what stands at a place is changed.
func set(l session.Letter, at int, with ...byte) []byte {
	b := plainBytes(l)
	copy(b[at:], with)
	return b
}

// encodes checks a letter's bytes.
func encodes(t *testing.T, l session.Letter, want []byte) {
	t.Helper()
	if b, e := session.Encode(l); !bytes.Equal(b, want) || e != api.OK {
		t.Errorf("%+v: %.60q, %d; want %.60q", l, b, e, want)
	}
}

// noBytes checks that a letter has no bytes.
func noBytes(t *testing.T, l session.Letter) {
	t.Helper()
	if b, e := session.Encode(l); len(b) != 0 || e != api.ErrArg {
		t.Errorf("%+v: %d bytes, %d", l, len(b), e)
	}
}

// decodes checks the letter of bytes.
func decodes(t *testing.T, b []byte, want session.Letter) {
	t.Helper()
	if l, e := session.Decode(b); !same(l, want) || e != api.OK {
		t.Errorf("%.60q: %+v, %d; want %+v", b, l, e, want)
	}
}

// noLetter checks that bytes are none's, and that nothing is told beside it.
func noLetter(t *testing.T, b []byte) {
	t.Helper()
	if l, e := session.Decode(b); !same(l, session.Letter{}) || e != api.ErrForm {
		t.Errorf("%d bytes, %.60q: %+v, %d", len(b), b, l, e)
	}
}

// TestEncode: P11.1: a letter's bytes stand where the chapter says.
func TestEncode(t *testing.T) {
	for _, x := range []struct {
		l    session.Letter
		want string
	}{
		{session.Letter{Mine: 0x01020304, Peer: 0x05060708, Ack: 0x0a0b0c0d0e, Seq: 0x1112131415, Body: []byte("body")},
			"\x00\x01\x02\x03\x04\x00\x05\x06\x07\x08\x00\x0a\x0b\x0c\x0d\x0e\x00\x11\x12\x13\x14\x15\x00\x04body"},
		{session.Letter{Mine: 1 << 32, Peer: 1 << 32, Ack: 1 << 40, Seq: 1 << 40, Body: []byte{255}},
			"\x01\x00\x00\x00\x00\x01\x00\x00\x00\x00\x01\x00\x00\x00\x00\x00\x01\x00\x00\x00\x00\x00\x00\x01\xff"},
		{session.Letter{Mine: 1},
			"\x00\x00\x00\x00\x01\x00\x00\x00\x00\x00\x00\x00\x00\x00\x00\x00\x00\x00\x00\x00\x00\x00\x00\x00"},
		{session.Letter{Mine: 1<<32 - 1, Peer: 2, Ack: 1<<40 - 1, Seq: 3, Body: []byte("\x00\x00")},
			"\x00\xff\xff\xff\xff\x00\x00\x00\x00\x02\x00\xff\xff\xff\xff\xff\x00\x00\x00\x00\x00\x03\x00\x02\x00\x00"},
	} {
		encodes(t, x.l, []byte(x.want))
		decodes(t, []byte(x.want), x.l)
	}
}

// TestEncodeRight: P11.1 at each edge of the letters that may be, there and back.
func TestEncodeRight(t *testing.T) {
	for _, l := range rightLetters() {
		encodes(t, l, plainBytes(l))
		decodes(t, plainBytes(l), l)
	}
}

// TestEncodeWrong: P11.1: ErrArg, and nothing, of a letter that may not be.
func TestEncodeWrong(t *testing.T) {
	for _, l := range wrongLetters() {
		noBytes(t, l)
	}
}

// TestDecodeWrong: P11.1: ErrForm of the bytes of what may not be, each number one beyond what may be.
func TestDecodeWrong(t *testing.T) {
	for _, l := range []session.Letter{full(), bare()} {
		for _, c := range []change{mine(0), mine(1<<32 + 1), mine(1<<40 - 1), peer(1<<32 + 1), peer(1<<40 - 1), ack(1<<40 + 1), ack(1<<48 - 1), seq(1<<40 + 1), seq(1<<48 - 1)} {
			noLetter(t, plainBytes(changed(l, []change{c})))
		}
		for _, n := range []int{1001, 1002, 65535} {
			noLetter(t, plainBytes(changed(l, []change{sized(n)})))
		}
	}
	for _, n := range []int{1, 2, 20, 1000} {
		noLetter(t, plainBytes(bare(sized(n))))
	}
	for _, n := range []int{1, 2, 1 << 32, 1 << 40} {
		noLetter(t, plainBytes(bare(seq(n))))
	}
	noLetter(t, nil)
	noLetter(t, []byte{})
	noLetter(t, make([]byte, 24))
}

// TestDecodeCut: P11.1: bytes that are cut, at each place, and ones with more behind them, are none's.
func TestDecodeCut(t *testing.T) {
	for _, l := range rightLetters() {
		b := plainBytes(l)
		for n := range b {
			noLetter(t, b[:n])
		}
		for n := range 30 {
			noLetter(t, bytes.Clone(b[:min(n, len(b)-1)]))
		}
		for _, n := range []int{1, 2, 24, 1000} {
			noLetter(t, append(bytes.Clone(b), make([]byte, n)...))
		}
		noLetter(t, append(bytes.Clone(b), b...))
		noLetter(t, append([]byte{0}, b...))
	}
}

// TestDecodeLength: P11.1: the length that stands ahead of the body is how many bytes come.
func TestDecodeLength(t *testing.T) {
	for _, n := range []int{1, 2, 255, 256, 257, 999, 1000} {
		l := full(sized(n))
		for m := range 1100 {
			if m != n {
				noLetter(t, set(l, 22, byte(m>>8), byte(m)))
			}
		}
		noLetter(t, set(l, 22, 255, 255))
		noLetter(t, set(bare(), 22, byte(n>>8), byte(n)))
	}
}

// TestDecodeLengths: P11.1: of a body of 1 to 1000 bytes alone there is a letter with a SEQ, without one of none.
func TestDecodeLengths(t *testing.T) {
	for n := range 1100 {
		l := full(sized(n))
		if is(n, 1, 1000) {
			decodes(t, plainBytes(l), l)
		} else {
			noLetter(t, plainBytes(l))
		}
		if n > 0 {
			noLetter(t, plainBytes(bare(sized(n))))
		}
	}
	noLetter(t, make([]byte, 1<<20))
	noLetter(t, append(plainBytes(full(sized(1000))), make([]byte, 1<<20)...))
}

// TestDecodeByLength: P11.1: the room behind the bytes is no part of them.
func TestDecodeByLength(t *testing.T) {
	room := append(plainBytes(full()), plainBytes(full(sized(1000)))...)
	n := len(plainBytes(full()))
	decodes(t, room[:n], full())
	noLetter(t, room[:n-1])
	noLetter(t, room[:n+1])
	noLetter(t, room[:0])
}
