package inet_test

import (
	"bytes"
	"encoding/binary"
	"testing"

	"rutter/api"
	"rutter/inet"
)

// chance tells numbers that look like chance, the same in each run.
type chance uint64

func (c *chance) below(n int) int {
	*c = *c*6364136223846793005 + 1442695040888963407
	return int(uint64(*c) >> 33 % uint64(n))
}

func (c *chance) bytes(n int) []byte {
	b := make([]byte, n)
	for i := range b {
		b[i] = byte(c.below(256))
	}
	return b
}

func (c *chance) ip() uint32 { return uint32(c.below(1<<16)<<16 | c.below(1<<16)) }

// flow is one that may be.
func (c *chance) flow() api.Flow {
	return api.Flow{Proto: []int{6, 17}[c.below(2)], Src: c.ip(), Dst: c.ip(), SrcPort: c.below(65536), DstPort: c.below(65536)}
}

// mend gives a head the check that is right for what else it has.
func mend(b []byte) []byte {
	b[10], b[11] = 0, 0
	binary.BigEndian.PutUint16(b[10:], uint16(plainCheck(b[:20])))
	return b
}

// plain is a flow's datagram, told anew.
func plain(f api.Flow, body []byte) []byte {
	b := []byte{69, 0}
	b = binary.BigEndian.AppendUint16(b, uint16(24+len(body)))
	b = append(b, 0, 0, 0, 0, 64, byte(f.Proto), 0, 0)
	b = binary.BigEndian.AppendUint32(b, f.Src)
	b = binary.BigEndian.AppendUint32(b, f.Dst)
	b = binary.BigEndian.AppendUint16(b, uint16(f.SrcPort))
	b = binary.BigEndian.AppendUint16(b, uint16(f.DstPort))
	return append(mend(b), body...)
}

// set is an ordinary datagram, of which what stands at a place is changed; its check isn't.
func set(at int, with ...byte) []byte {
	b := plain(ordinary(), []byte("body"))
	copy(b[at:], with)
	return b
}

// makes checks a flow's datagram.
func makes(t *testing.T, f api.Flow, body, want []byte) {
	t.Helper()
	if b, e := inet.Make(f, body); !bytes.Equal(b, want) || e != api.OK {
		t.Errorf("%+v, %d bytes: %.40q, %d; want %.40q", f, len(body), b, e, want)
	}
}

// refuses checks that there is no such datagram.
func refuses(t *testing.T, f api.Flow, body []byte) {
	t.Helper()
	if b, e := inet.Make(f, body); len(b) != 0 || e != api.ErrArg {
		t.Errorf("%+v, %d bytes: %d bytes, %d", f, len(body), len(b), e)
	}
}

// parses checks the flow and the body of a datagram.
func parses(t *testing.T, b []byte, want api.Flow, body []byte) {
	t.Helper()
	if f, l, e := inet.Parse(b); f != want || !bytes.Equal(l, body) || e != api.OK {
		t.Errorf("%d bytes, %.40q: %+v, %d bytes, %d; want %+v, %d bytes", len(b), b, f, len(l), e, want, len(body))
	}
}

// fails checks that bytes are no datagram, by that error, and that nothing is told beside it.
func fails(t *testing.T, b []byte, want api.Errno) {
	t.Helper()
	if f, l, e := inet.Parse(b); f != (api.Flow{}) || len(l) != 0 || e != want {
		t.Errorf("%d bytes, %.40q: %+v, %d bytes, %d; want %d", len(b), b, f, len(l), e, want)
	}
}

// TestMake: P4.1: a datagram's bytes stand where the chapter says; the checks are worked out by hand.
func TestMake(t *testing.T) {
	for _, x := range []struct {
		f          api.Flow
		body, want string
	}{
		{api.Flow{Proto: 6, Src: 0x0a000001, Dst: 0x0a000002, SrcPort: 258, DstPort: 80}, "hi",
			"\x45\x00\x00\x1a\x00\x00\x00\x00\x40\x06\x66\xdc\x0a\x00\x00\x01\x0a\x00\x00\x02\x01\x02\x00\x50hi"},
		{api.Flow{Proto: 17}, "",
			"\x45\x00\x00\x18\x00\x00\x00\x00\x40\x11\x7a\xd6\x00\x00\x00\x00\x00\x00\x00\x00\x00\x00\x00\x00"},
		{api.Flow{Proto: 17, Src: 1<<32 - 1, Dst: 1<<32 - 1, SrcPort: 65535, DstPort: 65534}, "\x00",
			"\x45\x00\x00\x19\x00\x00\x00\x00\x40\x11\x7a\xd5\xff\xff\xff\xff\xff\xff\xff\xff\xff\xff\xff\xfe\x00"},
		// The numbers of these heads are 65535, 65536, and 131071 (that is folded twice), added.
		{api.Flow{Proto: 6, Src: 0x7ae1}, "",
			"\x45\x00\x00\x18\x00\x00\x00\x00\x40\x06\x00\x00\x00\x00\x7a\xe1\x00\x00\x00\x00\x00\x00\x00\x00"},
		{api.Flow{Proto: 6, Src: 0x7ae1, Dst: 1 << 16}, "",
			"\x45\x00\x00\x18\x00\x00\x00\x00\x40\x06\xff\xfe\x00\x00\x7a\xe1\x00\x01\x00\x00\x00\x00\x00\x00"},
		{api.Flow{Proto: 6, Src: 0xffff7ae2}, "",
			"\x45\x00\x00\x18\x00\x00\x00\x00\x40\x06\xff\xfe\xff\xff\x7a\xe2\x00\x00\x00\x00\x00\x00\x00\x00"},
	} {
		makes(t, x.f, []byte(x.body), []byte(x.want))
		parses(t, []byte(x.want), x.f, []byte(x.body))
	}
}

// TestMakeRight: P4.1 and P4.2 at each edge of the flows that may be.
func TestMakeRight(t *testing.T) {
	for _, f := range rightFlows() {
		for _, body := range [][]byte{nil, {}, {0}, {255}, []byte("body")} {
			makes(t, f, body, plain(f, body))
			parses(t, plain(f, body), f, body)
		}
	}
}

// TestMakeWrong: P4.1: ErrArg, and nothing, of a flow that may not be, whatever the body.
func TestMakeWrong(t *testing.T) {
	for _, f := range wrongFlows() {
		for _, n := range []int{0, 1, 1400, 1401} {
			refuses(t, f, make([]byte, n))
		}
		refuses(t, f, nil)
	}
}

// TestMakeBodies: P4.1: a body of at most 1400 bytes, which stands behind the ports as it is.
func TestMakeBodies(t *testing.T) {
	if inet.MostBody != 1400 {
		t.Errorf("MostBody: %d", inet.MostBody)
	}
	c := chance(3)
	for _, n := range []int{0, 1, 2, 3, 231, 232, 255, 256, 1399, 1400} {
		body := c.bytes(n)
		makes(t, ordinary(), body, plain(ordinary(), body))
		parses(t, plain(ordinary(), body), ordinary(), body)
	}
	for _, n := range []int{1401, 1402, 1500, 65511, 65512, 65535, 65536, 65537, 1 << 20} {
		refuses(t, ordinary(), make([]byte, n))
	}
}

// TestMakeByLength: P4.1: a body's length counts, not the room behind it.
func TestMakeByLength(t *testing.T) {
	room := bytes.Repeat([]byte("abc"), 1000)
	makes(t, ordinary(), room[:4], plain(ordinary(), []byte("abca")))
	makes(t, ordinary(), room[:0], plain(ordinary(), nil))
	refuses(t, ordinary(), room[:1401])
}

// TestParseShort: P4.1: fewer than 24 bytes are none's, also with the number that stands there, and a right check.
func TestParseShort(t *testing.T) {
	all := plain(ordinary(), nil)
	fails(t, nil, api.ErrForm)
	fails(t, []byte{}, api.ErrForm)
	for n := range 24 {
		fails(t, all[:n], api.ErrForm)
		fails(t, bytes.Clone(all[:n]), api.ErrForm)
		if n >= 20 {
			b := bytes.Clone(all[:n])
			b[3] = byte(n)
			fails(t, mend(b), api.ErrForm)
		}
	}
	parses(t, all, ordinary(), nil)
	parses(t, plain(ordinary(), []byte{9}), ordinary(), []byte{9})
}

// TestParseFirst: P4.1: the first byte is 69, and nothing else.
func TestParseFirst(t *testing.T) {
	for c := range 256 {
		b := mend(set(0, byte(c)))
		if c == 69 {
			parses(t, b, ordinary(), []byte("body"))
			continue
		}
		fails(t, b, api.ErrForm)
	}
}

// TestParseLength: P4.1: the length that stands there is how many bytes there are, of short ones and of long ones.
func TestParseLength(t *testing.T) {
	for _, n := range []int{0, 1, 2, 4, 231, 232, 233, 1400, 1401, 65510, 65511} {
		all := plain(ordinary(), make([]byte, n))
		parses(t, all, ordinary(), make([]byte, n))
		fails(t, append(bytes.Clone(all), 0), api.ErrForm)
		fails(t, all[:len(all)-1], api.ErrForm)
		for _, d := range []int{-256, -2, -1, 1, 2, 256} {
			b := bytes.Clone(all)
			binary.BigEndian.PutUint16(b[2:], uint16(len(b)+d))
			fails(t, mend(b), api.ErrForm)
		}
	}
	for _, n := range []int{65512, 65513, 65536, 65536 + 4, 1 << 20} {
		fails(t, plain(ordinary(), make([]byte, n)), api.ErrForm) // nothing wraps round
	}
}

// TestParseSum: P4.1: a head whose check is not 0 is ErrSum; each of its bits counts.
func TestParseSum(t *testing.T) {
	for k := range 8 * 20 {
		b := set(0)
		b[k/8] ^= 1 << (k % 8)
		if at := k / 8; at == 0 || at == 2 || at == 3 {
			fails(t, b, api.ErrForm)
			continue
		}
		fails(t, b, api.ErrSum)
	}
	fails(t, set(10, 0, 0), api.ErrSum)
	fails(t, set(10, 255, 255), api.ErrSum)
	right := set(0)
	fails(t, set(10, right[11], right[10]), api.ErrSum)
	fails(t, set(10, ^right[10], ^right[11]), api.ErrSum)
	fails(t, make([]byte, 24), api.ErrForm)
}

// TestParseAsItStands: P4.1: the check is taken of the first 20 bytes as they stand: where it would be 0, 65535 is as good.
func TestParseAsItStands(t *testing.T) {
	f := api.Flow{Proto: 6, Src: 0x7ae1, SrcPort: 7, DstPort: 8}
	b := plain(f, nil)
	if b[10] != 0 || b[11] != 0 {
		t.Fatalf("%q", b)
	}
	parses(t, b, f, nil)
	b[10], b[11] = 255, 255
	parses(t, b, f, nil)
	b[11] = 254
	fails(t, b, api.ErrSum)
}

// TestParseBehindHead: P4.1: what stands behind the first 20 bytes isn't summed: any ports and any body go with one check.
func TestParseBehindHead(t *testing.T) {
	for k := 8 * 20; k < 8*28; k++ {
		b := set(0)
		b[k/8] ^= 1 << (k % 8)
		f := ordinary(srcPort(int(b[20])<<8|int(b[21])), dstPort(int(b[22])<<8|int(b[23])))
		parses(t, b, f, b[24:])
	}
}

// TestParseProtocol: P4.1: a protocol that is neither is ErrKind, if the check is right.
func TestParseProtocol(t *testing.T) {
	for c := range 256 {
		b := mend(set(9, byte(c)))
		if c == 6 || c == 17 {
			parses(t, b, ordinary(proto(c)), []byte("body"))
			continue
		}
		fails(t, b, api.ErrKind)
	}
}

// TestParseOrder: P4.1: where several are wrong, the error that the chapter names first.
func TestParseOrder(t *testing.T) {
	for _, n := range []byte{5, 7, 16, 18, 0, 255} {
		fails(t, set(9, n), api.ErrSum)
		fails(t, append(set(9, n), 0), api.ErrForm)
		fails(t, append(mend(set(9, n)), 0), api.ErrForm)
		for _, first := range []byte{68, 70, 0, 64, 96} {
			wrong := set(9, n)
			wrong[0] = first
			fails(t, wrong, api.ErrForm)
			fails(t, mend(wrong), api.ErrForm)
		}
		fails(t, set(9, n)[:23], api.ErrForm)
	}
	fails(t, set(0, 68), api.ErrForm)
	fails(t, append(set(10, 1, 1), 0), api.ErrForm)
	fails(t, set(10, 1, 1)[:27], api.ErrForm)
	fails(t, set(2, 0, 27), api.ErrForm)
	fails(t, set(2, 0, 29), api.ErrForm)
}

// TestParseOthers: P4.1: other numbers of the head don't matter, if the check is right.
func TestParseOthers(t *testing.T) {
	c := chance(4)
	for _, at := range []int{1, 4, 5, 6, 7, 8} {
		for _, n := range []byte{0, 1, 63, 64, 65, 128, 255} {
			parses(t, mend(set(at, n)), ordinary(), []byte("body"))
		}
	}
	for range 1000 {
		b := set(4, c.bytes(5)...)
		b[1] = byte(c.below(256))
		parses(t, mend(b), ordinary(), []byte("body"))
	}
}

// TestParseLong: P4.1: a body of whatever length, also of more than may be made.
func TestParseLong(t *testing.T) {
	c := chance(5)
	for _, n := range []int{1399, 1400, 1401, 1402, 1500, 4096, 65510, 65511} {
		body := c.bytes(n)
		parses(t, plain(ordinary(), body), ordinary(), body)
	}
}
