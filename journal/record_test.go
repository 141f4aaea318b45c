package journal_test

import (
	"encoding/binary"
	"slices"
	"strings"
	"testing"

	"rutter/api"
	"rutter/journal"
)

// sumless is a body whose sum is 0.
const sumless = "\x9d\x0a\xd9\x6d"

// laid lays bytes as a record's: how many there are said to be, these, and a sum.
func laid(n int, body string, sum int) string {
	b := binary.BigEndian.AppendUint16(nil, uint16(n))
	return string(binary.BigEndian.AppendUint32(append(b, body...), uint32(sum)))
}

// record is a body's, told anew.
func record(body string) string { return laid(len(body), body, plainSum(body)) }

// records are several bodies', one behind the other.
func records(l ...string) string {
	var s strings.Builder
	for _, body := range l {
		s.WriteString(record(body))
	}
	return s.String()
}

// whole are those bodies, of all, whose records are whole in the first n bytes.
func whole(l []string, n int) []string {
	for len(records(l...)) > n {
		l = l[:len(l)-1]
	}
	return l
}

// expected are the bodies of the records of bytes, and how many bytes these have, told anew.
func expected(s string) ([]string, int) {
	var l []string
	at := 0
	for len(s)-at >= 2 {
		n := int(s[at])<<8 + int(s[at+1])
		if n < 1 || n > 200 || len(s)-at < n+6 || s[at:at+n+6] != record(s[at+2:at+2+n]) {
			break
		}
		l, at = append(l, s[at+2:at+2+n]), at+n+6
	}
	return l, at
}

// texts are bodies.
func texts(l [][]byte) []string {
	var all []string
	for _, b := range l {
		all = append(all, string(b))
	}
	return all
}

// scans checks which bodies the records of bytes have, and that they have just so many bytes.
func scans(t *testing.T, s string, want ...string) {
	t.Helper()
	l, n := journal.Scan([]byte(s))
	if !slices.Equal(texts(l), want) || n != len(records(want...)) {
		t.Errorf("Scan of %.60q, %d bytes: %.60q, %d; want %.60q, %d", s, len(s), l, n, want, len(records(want...)))
	}
}

// bodies are some, of the shortest and the longest too.
func bodies() []string {
	return []string{"a", "\x00", "\xff", "ab", "\x00\x00", sumless, "journal", rising(7), rising(199), rising(200), strings.Repeat("\xff", 200), strings.Repeat("\x00", 200)}
}

// behind are bytes that are none's record, wherever they stand.
func behind() []string {
	return []string{
		"\x00", "\x01", "\xff", "\x00\x00", "\x00\x01", "\x00\x01a", record("abc")[:8], laid(0, "", 0), laid(0, "", 1),
		laid(201, rising(201), plainSum(rising(201))), laid(1, "a", plainSum("b")), laid(1, "a", plainSum("a")^1), laid(2, "a", plainSum("a")),
		laid(65535, "a", plainSum("a")), laid(256, rising(256), plainSum(rising(256))), strings.Repeat("\x00", 100), strings.Repeat("\xff", 300), "no record, but bytes",
	}
}

// TestEncode: P8.1: records, byte by byte.
func TestEncode(t *testing.T) {
	for body, want := range map[string]string{
		"a":         "\x00\x01a\xe8\xb7\xbe\x43",
		"ab":        "\x00\x02ab\x9e\x83\x48\x6d",
		"123456789": "\x00\x09123456789\xcb\xf4\x39\x26",
		sumless:     "\x00\x04\x9d\x0a\xd9\x6d\x00\x00\x00\x00",
	} {
		if b, e := journal.Encode([]byte(body)); string(b) != want || e != api.OK {
			t.Errorf("%q: %q, %d; want %q", body, b, e, want)
		}
	}
}

// TestEncodeLengths: P8.1: bodies of 1 to 200 bytes have a record, no others.
func TestEncodeLengths(t *testing.T) {
	if journal.MostBody != 200 {
		t.Errorf("MostBody: %d", journal.MostBody)
	}
	for n := 1; n <= 200; n++ {
		for _, body := range []string{rising(n), strings.Repeat("\x00", n), strings.Repeat("\xff", n)} {
			if b, e := journal.Encode([]byte(body)); string(b) != record(body) || e != api.OK {
				t.Errorf("%d bytes: %q, %d", n, b, e)
			}
		}
	}
	for _, n := range []int{201, 202, 255, 256, 257, 456, 65535, 65536, 65537, 65736, 1 << 20} {
		if b, e := journal.Encode(make([]byte, n)); len(b) != 0 || e != api.ErrArg {
			t.Errorf("%d bytes: %q, %d; want none, %d", n, b, e, api.ErrArg)
		}
	}
	for _, none := range [][]byte{nil, {}, make([]byte, 0, 10), []byte("abc")[:0]} {
		if b, e := journal.Encode(none); len(b) != 0 || e != api.ErrArg {
			t.Errorf("none: %q, %d; want none, %d", b, e, api.ErrArg)
		}
	}
}

// TestScan: P8.1: no bytes, one record, and several.
func TestScan(t *testing.T) {
	scans(t, "")
	if l, n := journal.Scan(nil); len(l) != 0 || n != 0 {
		t.Errorf("nil: %q, %d", l, n)
	}
	scans(t, "\x00\x01a\xe8\xb7\xbe\x43", "a")
	scans(t, "\x00\x01a\xe8\xb7\xbe\x43\x00\x02ab\x9e\x83\x48\x6d", "a", "ab")
	all := bodies()
	for i, body := range all {
		scans(t, record(body), body)
		scans(t, records(body, body, body), body, body, body)
		scans(t, records(all[i:]...), all[i:]...)
		scans(t, records(all[:i]...), all[:i]...)
	}
	for n := 1; n <= 200; n++ {
		scans(t, records(rising(n), "z"), rising(n), "z")
	}
}

// TestScanMany: P8.1: more records than a file of 2^20 bytes has room for.
func TestScanMany(t *testing.T) {
	want := slices.Repeat([]string{"a", sumless, rising(200)}, 5000)
	scans(t, records(want...), want...)
	scans(t, records(want...)+"\x00", want...)
}

// TestScanBehind: P8.1: bytes behind records that are none's, and right records behind these.
func TestScanBehind(t *testing.T) {
	for _, wrong := range behind() {
		for _, l := range [][]string{nil, {"a"}, {sumless}, {rising(200)}, {"one", "two", "three"}} {
			scans(t, records(l...)+wrong, l...)
			scans(t, records(l...)+wrong+records("right", "too"), l...)
		}
	}
}

// TestScanLengths: P8.1: a body that is said to have 0 bytes, 200, 201, and more than there are, whatever its sum is.
func TestScanLengths(t *testing.T) {
	scans(t, laid(0, "", 0)+record("a"))
	scans(t, strings.Repeat("\x00", 6))
	scans(t, record("a")+strings.Repeat("\x00", 6), "a")
	scans(t, laid(200, rising(200), plainSum(rising(200))), rising(200))
	for _, n := range []int{201, 202, 255, 256, 257, 300, 456, 1000, 65535} {
		body := strings.Repeat(rising(256), 256)[:n]
		scans(t, laid(n, body, plainSum(body)))
		scans(t, record("a")+laid(n, body, plainSum(body))+record("b"), "a")
	}
	for _, n := range []int{2, 3, 4, 100, 199, 200, 201, 256, 257, 65535} { // the body has 1 byte
		scans(t, laid(n, "a", plainSum("a")))
		scans(t, record("a")+laid(n, "b", plainSum("b")), "a")
	}
	for n := range 210 { // with bytes enough behind it, but another sum than these have
		s := laid(n, rising(100), plainSum(rising(100))) + rising(200)
		if n == 100 {
			scans(t, s, rising(100))
		} else {
			scans(t, s)
		}
	}
}

// TestScanCut: P8.1: records that are cut at each place have those that are whole.
func TestScanCut(t *testing.T) {
	for _, l := range [][]string{{"a"}, {sumless}, {"a", sumless, "b"}, {sumless, sumless}, {rising(200), "\x00", strings.Repeat("\x00", 200)}} {
		s := records(l...)
		for n := range len(s) + 1 {
			scans(t, s[:n], whole(l, n)...)
		}
	}
}

// TestScanSumCut: P8.1: a sum of which bytes are missing is none, also where those that are there, or none at all, would do.
func TestScanSumCut(t *testing.T) {
	s := record(sumless)
	for n := range len(s) {
		scans(t, s[:n])
		scans(t, record("a")+s[:n], "a")
	}
	scans(t, s, sumless)
}

// TestScanTurned: P8.1: each byte of a record turned, that of its length and those of its sum too: those ahead stay, none behind it counts.
func TestScanTurned(t *testing.T) {
	for _, body := range []string{"a", sumless, "journal", rising(60)} {
		ahead, s, last := record("ahead"), record(body), record("last")
		for i := range len(s) {
			for turn := 1; turn < 256; turn++ {
				b := []byte(ahead + s + last)
				b[len(ahead)+i] ^= byte(turn)
				scans(t, string(b), "ahead")
			}
		}
	}
}

// TestScanOtherSum: P8.1: a sum of the lowest byte first, of none, of what stands with the length, not turned, or of another body is wrong.
func TestScanOtherSum(t *testing.T) {
	for _, body := range []string{"a", "ab", rising(200)} {
		right := plainSum(body)
		turned := int(binary.LittleEndian.Uint32(binary.BigEndian.AppendUint32(nil, uint32(right))))
		for _, sum := range []int{0, 1<<32 - 1, turned, right ^ (1<<32 - 1), right - 1, right + 1, plainSum(body + "\x00"), plainSum(record(body)[:2+len(body)])} {
			scans(t, laid(len(body), body, sum)+record("b"))
		}
	}
}

// likeExpected holds Scan against what is told anew.
func likeExpected(t *testing.T, b []byte) {
	t.Helper()
	was := string(b)
	want, n := expected(was)
	scans(t, was, want...)
	if len(records(want...)) != n || was[:n] != records(want...) || string(b) != was {
		t.Errorf("%q: %q, %d", was, want, n)
	}
}

// TestScanAny: P8.1, and P1: any bytes, many of which begin with records.
func TestScanAny(t *testing.T) {
	c := chance(4)
	for range 20000 {
		s := ""
		for range c.below(5) {
			s += record(string(c.bytes(1 + c.below(20))))
		}
		s += string(c.bytes(c.below(9)))
		b := []byte(s)
		if len(b) > 0 && c.below(2) == 0 {
			b[c.below(len(b))] = byte(c.below(256))
		}
		likeExpected(t, b)
	}
}

// FuzzScan: as TestScanAny; go test runs the seeds alone.
func FuzzScan(f *testing.F) {
	for _, s := range append(behind(), "", records(bodies()...), records("a", "b")+laid(0, "", 0)) {
		f.Add([]byte(s))
	}
	f.Fuzz(likeExpected)
}

// TestThereAndBack: P8.1: what is encoded is scanned, and nothing is left.
func TestThereAndBack(t *testing.T) {
	c := chance(5)
	for range 500 {
		var all []byte
		var want []string
		for range c.below(6) {
			body := c.bytes(1 + c.below(200))
			b, e := journal.Encode(body)
			if e != api.OK {
				t.Fatalf("%q: %d", body, e)
			}
			all, want = append(all, b...), append(want, string(body))
		}
		l, n := journal.Scan(all)
		if !slices.Equal(texts(l), want) || n != len(all) {
			t.Errorf("%q: %q, %d", all, l, n)
		}
	}
}

// TestEncodeKeepsNothing: what is handed to Encode is neither kept nor written into, nor what lies behind it; what it answers is new.
func TestEncodeKeepsNothing(t *testing.T) {
	for _, body := range bodies() {
		room := []byte(body + "------------")
		a, _ := journal.Encode(room[:len(body)])
		b, _ := journal.Encode(room[:len(body)])
		if string(room) != body+"------------" {
			t.Errorf("written into: %q", room)
		}
		spoil(room)
		if string(a) != record(body) {
			t.Errorf("kept: %q", a)
		}
		spoil(a)
		if string(b) != record(body) {
			t.Errorf("another answer: %q", b)
		}
	}
	room := []byte("------")
	if _, e := journal.Encode(room[:0]); e != api.ErrArg || string(room) != "------" {
		t.Errorf("none: %d, %q", e, room)
	}
}

// TestScanKeepsNothing: what is handed to Scan is neither kept nor written into; what lies behind it is not read, a record's end neither.
func TestScanKeepsNothing(t *testing.T) {
	s := records("abc", "x", rising(200))
	for n := range len(s) + 1 {
		room := []byte(s + record("more"))
		want, m := expected(s[:n])
		l, k := journal.Scan(room[:n])
		if string(room) != s+record("more") {
			t.Errorf("%d bytes: written into: %q", n, room)
		}
		spoil(room)
		if !slices.Equal(texts(l), want) || k != m {
			t.Errorf("%d bytes: %q, %d; want %q, %d", n, l, k, want, m)
		}
	}
}

// TestScanIsNew: no two bodies share memory, neither of one answer nor of two, nor do they with what was handed in.
func TestScanIsNew(t *testing.T) {
	want := bodies()
	b := []byte(records(want...))
	for i := range want {
		l, _ := journal.Scan(b)
		m, _ := journal.Scan(b)
		spoil(l[i])
		_ = append(l[i], "!!!!!!!!!!"...)
		if i > 0 && string(l[i-1]) != want[i-1] || i+1 < len(l) && string(l[i+1]) != want[i+1] {
			t.Errorf("beside body %d: spoilt", i)
		}
		if !slices.Equal(texts(m), want) || string(b) != records(want...) {
			t.Errorf("body %d: another answer: %q", i, m)
		}
		clear(l)
		if !slices.Equal(texts(m), want) {
			t.Errorf("body %d: another list: %q", i, m)
		}
	}
}
