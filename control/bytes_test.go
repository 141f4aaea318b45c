package control_test

import (
	"bytes"
	"encoding/binary"
	"testing"

	"rutter/api"
	"rutter/control"
)

// wide is a number's bytes, n of them, whatever doesn't fit left away.
func wide(n int, x uint64) []byte { return binary.BigEndian.AppendUint64(nil, x)[8-n:] }

// plain is a message's bytes, told anew.
func plain(m api.Message) []byte {
	b := []byte{byte(m.Kind)}
	if r := m.Row; m.Kind == 1 {
		b = append(append(b, byte(r.Port)), wide(6, r.MAC)...)
		b = append(b, byte(r.Owner+1), byte(r.Target+1), byte(r.Old+1), byte(r.Phase))
		return append(append(append(b, wide(5, uint64(r.Gen))...), wide(6, uint64(r.Ver))...), wide(6, uint64(r.Since))...)
	}
	b = append(append(b, byte(m.Port)), wide(6, uint64(m.Ver))...)
	if m.Kind != 3 {
		return b
	}
	b = append(b, byte(len(m.Records)))
	for _, x := range m.Records {
		b = append(append(b, byte(x.Flow.Proto)), wide(4, uint64(x.Flow.Src))...)
		b = append(append(b, wide(4, uint64(x.Flow.Dst))...), wide(2, uint64(x.Flow.SrcPort))...)
		b = append(append(b, wide(2, uint64(x.Flow.DstPort))...), wide(6, uint64(x.Until))...)
	}
	return b
}

// set is a message's bytes, of which what stands at a place is changed.
func set(m api.Message, at int, with ...byte) []byte {
	b := plain(m)
	copy(b[at:], with)
	return b
}

// encodes checks a message's bytes.
func encodes(t *testing.T, m api.Message, want []byte) {
	t.Helper()
	if b, e := control.Encode(m); !bytes.Equal(b, want) || e != api.OK {
		t.Errorf("%+v: %q, %d; want %q", m, b, e, want)
	}
}

// noBytes checks that a message has no bytes.
func noBytes(t *testing.T, m api.Message) {
	t.Helper()
	if b, e := control.Encode(m); len(b) != 0 || e != api.ErrArg {
		t.Errorf("%+v: %d bytes, %d", m, len(b), e)
	}
}

// decodes checks the message of bytes.
func decodes(t *testing.T, b []byte, want api.Message) {
	t.Helper()
	if m, e := control.Decode(b); !same(m, want) || e != api.OK {
		t.Errorf("%q: %+v, %d; want %+v", b, m, e, want)
	}
}

// noMessage checks that bytes are none's, and that nothing is told beside it.
func noMessage(t *testing.T, b []byte) {
	t.Helper()
	if m, e := control.Decode(b); !same(m, api.Message{}) || e != api.ErrForm {
		t.Errorf("%d bytes, %.60q: %+v, %d", len(b), b, m, e)
	}
}

// TestEncode: P6.1: a message's bytes stand where the chapter says.
func TestEncode(t *testing.T) {
	flow := api.Flow{Proto: 6, Src: 0x01020304, Dst: 0x05060708, SrcPort: 0x090a, DstPort: 0x0b0c}
	back := api.Flow{Proto: 17, Src: 1<<32 - 1, DstPort: 65535}
	for _, x := range []struct {
		m    api.Message
		want string
	}{
		{api.Message{Kind: 1, Row: api.Row{Port: 3, MAC: 0x020304050607, Owner: 1, Target: -1, Old: -1, Phase: 0, Gen: 1, Ver: 2, Since: 0x0a0b0c0d0e}},
			"\x01\x03\x02\x03\x04\x05\x06\x07\x02\x00\x00\x00\x00\x00\x00\x00\x01\x00\x00\x00\x00\x00\x02\x00\x0a\x0b\x0c\x0d\x0e"},
		{api.Message{Kind: 1, Row: api.Row{Port: 31, MAC: 1<<48 - 1, Owner: 15, Target: 0, Old: -1, Phase: 1, Gen: 1 << 32, Ver: 1 << 40, Since: 1 << 40}},
			"\x01\x1f\xff\xff\xff\xff\xff\xff\x10\x01\x00\x01\x01\x00\x00\x00\x00\x01\x00\x00\x00\x00\x00\x01\x00\x00\x00\x00\x00"},
		{api.Message{Kind: 1, Row: api.Row{Port: 0, MAC: 0, Owner: 4, Target: -1, Old: 7, Phase: 2, Gen: 0x01020304, Ver: 0x0102030405, Since: 0}},
			"\x01\x00\x00\x00\x00\x00\x00\x00\x05\x00\x08\x02\x00\x01\x02\x03\x04\x00\x01\x02\x03\x04\x05\x00\x00\x00\x00\x00\x00"},
		{api.Message{Kind: 1, Row: api.Row{Port: 1, MAC: 1 << 47, Owner: -1, Target: -1, Old: -1, Phase: 3, Gen: 1<<32 - 1, Ver: 1<<40 - 1, Since: 1}},
			"\x01\x01\x80\x00\x00\x00\x00\x00\x00\x00\x00\x03\x00\xff\xff\xff\xff\x00\xff\xff\xff\xff\xff\x00\x00\x00\x00\x00\x01"},
		{api.Message{Kind: 2, Port: 5, Ver: 0x0102030405}, "\x02\x05\x00\x01\x02\x03\x04\x05"},
		{api.Message{Kind: 2, Port: 31, Ver: 1 << 40}, "\x02\x1f\x01\x00\x00\x00\x00\x00"},
		{api.Message{Kind: 3, Port: 0, Ver: 1}, "\x03\x00\x00\x00\x00\x00\x00\x01\x00"},
		{api.Message{Kind: 3, Port: 7, Ver: 258, Records: []api.Record{{Flow: flow, Until: 0x0d0e0f1011}, {Flow: back, Until: 1 << 40}}},
			"\x03\x07\x00\x00\x00\x00\x01\x02\x02" +
				"\x06\x01\x02\x03\x04\x05\x06\x07\x08\x09\x0a\x0b\x0c\x00\x0d\x0e\x0f\x10\x11" +
				"\x11\xff\xff\xff\xff\x00\x00\x00\x00\x00\x00\xff\xff\x01\x00\x00\x00\x00\x00"},
	} {
		encodes(t, x.m, []byte(x.want))
		decodes(t, []byte(x.want), x.m)
	}
}

// TestEncodeRight: P6.1 and P6.2 at each edge of the messages that may be.
func TestEncodeRight(t *testing.T) {
	for _, m := range rightMessages() {
		encodes(t, m, plain(m))
		decodes(t, plain(m), m)
	}
}

// TestEncodeWrong: P6.1: ErrArg, and nothing, of a message that may not be.
func TestEncodeWrong(t *testing.T) {
	for _, m := range wrongMessages() {
		noBytes(t, m)
	}
}

// TestEncodeByLength: P6.1: how many records there are counts, not the room behind them.
func TestEncodeByLength(t *testing.T) {
	for n := range 17 {
		encodes(t, tracked(knows(records(20)[:n]...)), plain(tracked(sized(n))))
	}
	encodes(t, awake(knows(records(3)[:0]...)), plain(awake()))
	encodes(t, tells(knows(records(3)[:0]...)), plain(tells()))
}

// TestDecodeWrong: P6.1: ErrForm of the bytes of what may not be, each number one beyond what may be.
func TestDecodeWrong(t *testing.T) {
	for _, n := range []byte{0, 4, 5, 128, 129, 255} {
		for _, m := range []api.Message{tells(), awake(), tracked(), tracked(knows())} {
			noMessage(t, set(m, 0, n))
		}
		noMessage(t, []byte{n})
	}
	for _, c := range []change{port(32), port(255), gen(0), gen(1<<32 + 1), gen(1<<40 - 1), ver(0), ver(1<<40 + 1), ver(1<<48 - 1), since(1<<40 + 1), since(1<<48 - 1), phase(4), phase(255)} {
		for _, r := range all(c) {
			noMessage(t, plain(tells(has(r))))
		}
	}
	for _, c := range []turn{of(32), of(255), at(0), at(1<<40 + 1), at(1<<48 - 1)} {
		for _, m := range each(c) {
			noMessage(t, plain(m))
		}
	}
	noMessage(t, nil)
	noMessage(t, []byte{})
}

// TestDecodeWho: P6.1: in each phase, whoever the bytes name: nobody, a chassis, and 16.
func TestDecodeWho(t *testing.T) {
	for n := range api.Phase(5) {
		for x := range 18 * 18 * 18 {
			m := tells(has(row(0, phase(n), who(x%18-1, x/18%18-1, x/324-1))))
			if rowMayBe(m.Row) {
				decodes(t, plain(m), m)
				continue
			}
			noMessage(t, plain(m))
		}
	}
	for at := 8; at <= 10; at++ {
		for n := 17; n < 256; n++ {
			for _, r := range []api.Row{row(0), row(1), row(2), row(3)} {
				noMessage(t, set(tells(has(r)), at, byte(n)))
			}
		}
	}
}

// TestDecodeRecords: P6.1: a wrong record counts, wherever it stands, each number one beyond what may be.
func TestDecodeRecords(t *testing.T) {
	for n := 1; n <= 16; n++ {
		for i := range n {
			at := 9 + 19*i
			for _, p := range []byte{0, 5, 7, 16, 18, 255} {
				noMessage(t, set(tracked(sized(n)), at, p))
			}
			noMessage(t, set(tracked(sized(n)), at+13, 1, 0, 0, 0, 0, 1))
			noMessage(t, set(tracked(sized(n)), at+13, 255, 255, 255, 255, 255, 255))
			l := records(n)
			l[i] = api.Record{Flow: api.Flow{Proto: 17, Src: 1<<32 - 1, Dst: 1<<32 - 1, SrcPort: 65535, DstPort: 65535}, Until: 1 << 40}
			decodes(t, plain(tracked(knows(l...))), tracked(knows(l...)))
		}
	}
}

// TestDecodeCount: P6.1: the number that stands ahead of the records is how many come, and 16 at most.
func TestDecodeCount(t *testing.T) {
	for n := range 40 {
		m := tracked(sized(n))
		for k := range 256 {
			if k == n && n <= 16 {
				decodes(t, set(m, 8, byte(k)), m)
				continue
			}
			noMessage(t, set(m, 8, byte(k)))
		}
	}
	noMessage(t, plain(tracked(sized(255))))
	noMessage(t, plain(tracked(sized(256))))
	noMessage(t, plain(tracked(sized(256+3))))
}

// TestDecodeCut: P6.2: bytes that are cut, at each place, and ones with more behind them, are none's.
func TestDecodeCut(t *testing.T) {
	for _, m := range append(rightMessages(), tells(has(row(3))), tracked(knows()), tracked(sized(16))) {
		b := plain(m)
		for n := range b {
			noMessage(t, b[:n])
			noMessage(t, bytes.Clone(b[:n]))
		}
		for _, n := range []int{1, 2, 6, 18, 19, 20, 300} {
			noMessage(t, append(bytes.Clone(b), make([]byte, n)...))
		}
		noMessage(t, append(bytes.Clone(b), b...))
		noMessage(t, append([]byte{byte(m.Kind)}, b...))
	}
}

// TestDecodeLong: P6.1: bytes longer than any message's are none's.
func TestDecodeLong(t *testing.T) {
	for _, m := range []api.Message{tells(), awake(), tracked(), tracked(sized(16))} {
		for _, n := range []int{313, 314, 332, 1000, 65536, 1 << 20} {
			noMessage(t, append(plain(m), make([]byte, n)...))
		}
	}
	if n := len(plain(tracked(sized(16)))); n != 313 {
		t.Errorf("the longest has %d bytes", n)
	}
}

// TestDecodeByLength: P6.1: the room behind the bytes is no part of them.
func TestDecodeByLength(t *testing.T) {
	for _, m := range []api.Message{tells(), awake(), tracked(), tracked(knows())} {
		room := append(plain(m), plain(tracked(sized(16)))...)
		n := len(plain(m))
		decodes(t, room[:n], m)
		noMessage(t, room[:n-1])
		noMessage(t, room[:n+1])
		noMessage(t, room[:0])
	}
}
