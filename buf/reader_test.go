package buf_test

import (
	"bytes"
	"math"
	"testing"

	"rutter/api"
	"rutter/buf"
)

// hasFailed checks that a reader failed, and that it stays so, whatever is asked.
func hasFailed(t *testing.T, what string, r *buf.Reader) {
	t.Helper()
	for range 2 {
		if e := r.Done(); e != api.ErrForm {
			t.Errorf("%q: Done %d", what, e)
		}
		if n := r.Get(1); n != 0 {
			t.Errorf("%q: Get %d", what, n)
		}
		if b := r.Bytes(65535); len(b) != 0 {
			t.Errorf("%q: Bytes %q", what, b)
		}
		if b := r.Rest(); len(b) != 0 {
			t.Errorf("%q: Rest %q", what, b)
		}
	}
	if e := r.Done(); e != api.ErrForm {
		t.Errorf("%q: Done at last %d", what, e)
	}
}

// TestReadInOrder: P1.1, W2, ordinary inputs.
func TestReadInOrder(t *testing.T) {
	r := buf.Read([]byte("\x07\x01\x02\x00\x03abc\x00\x00\x00\x00\x05xyz"))
	if n := r.Get(1); n != 7 {
		t.Errorf("of 1: %d", n)
	}
	if n := r.Get(2); n != 258 {
		t.Errorf("of 2: %d", n)
	}
	if b := r.Bytes(10); string(b) != "abc" {
		t.Errorf("bytes: %q", b)
	}
	if b := r.Bytes(10); len(b) != 0 {
		t.Errorf("no bytes: %q", b)
	}
	if n := r.Get(3); n != 5 {
		t.Errorf("of 3: %d", n)
	}
	if b := r.Rest(); string(b) != "xyz" || r.Done() != api.OK {
		t.Errorf("rest: %q", b)
	}
}

// TestGetWidest: P1.1, W2: of each n the least and the greatest number; with a byte too few it fails.
func TestGetWidest(t *testing.T) {
	for n := 1; n <= 8; n++ {
		most := bytes.Repeat([]byte{0xff}, n)
		if n == 8 {
			most[0] = 0x7f
		}
		for want, b := range map[int][]byte{0: make([]byte, n), greatest(n): most, 1: append(make([]byte, n-1), 1)} {
			r := buf.Read(b)
			if x := r.Get(n); x != want || r.Done() != api.OK {
				t.Errorf("%d bytes: %d; want %d", n, x, want)
			}
			short := buf.Read(b[:n-1])
			if x := short.Get(n); x != 0 {
				t.Errorf("%d of %d bytes: %d", n-1, n, x)
			}
			hasFailed(t, "a byte too few", short)
		}
	}
}

// TestGetBeyond: P1.1, W2: 8 bytes from 2^63 on are no number.
func TestGetBeyond(t *testing.T) {
	for _, s := range []string{"\x80\x00\x00\x00\x00\x00\x00\x00", "\x80\x00\x00\x00\x00\x00\x00\x01", "\xff\xff\xff\xff\xff\xff\xff\xff"} {
		r := buf.Read([]byte(s + "\x01\x02\x03"))
		if n := r.Get(8); n != 0 {
			t.Errorf("%q: %d", s, n)
		}
		hasFailed(t, s, r)
	}
	r := buf.Read([]byte("\x80\x00\x00\x00\x00\x00\x00"))
	if n := r.Get(7); n != 1<<55 || r.Done() != api.OK {
		t.Errorf("2^55: %d", n)
	}
}

// TestGetNoSuchWidth: P1.1, W2: n from 1 to 8 alone.
func TestGetNoSuchWidth(t *testing.T) {
	for _, n := range []int{0, 9, -1, -8, 16, 64, math.MinInt64, math.MaxInt64} {
		for _, b := range [][]byte{nil, make([]byte, 64)} {
			r := buf.Read(b)
			if x := r.Get(n); x != 0 {
				t.Errorf("%d: %d", n, x)
			}
			hasFailed(t, "a width", r)
		}
	}
}

// TestBytesMost: P1.1, W2: as many as most, and none more.
func TestBytesMost(t *testing.T) {
	for _, most := range []int{3, 4, 65535, 65536, math.MaxInt64} {
		r := buf.Read([]byte("\x00\x03abc"))
		if b := r.Bytes(most); string(b) != "abc" || r.Done() != api.OK {
			t.Errorf("3 of %d: %q", most, b)
		}
	}
	for _, most := range []int{2, 1, 0, -1, math.MinInt64} {
		r := buf.Read([]byte("\x00\x03abc"))
		if b := r.Bytes(most); len(b) != 0 {
			t.Errorf("3 of %d: %q", most, b)
		}
		hasFailed(t, "too many", r)
	}
}

// TestBytesNone: P1.1, W2: no bytes are not more than 0, but more than -1.
func TestBytesNone(t *testing.T) {
	for most, want := range map[int]api.Errno{0: api.OK, 1: api.OK, -1: api.ErrForm, math.MinInt64: api.ErrForm} {
		r := buf.Read([]byte("\x00\x00"))
		if b := r.Bytes(most); len(b) != 0 || r.Done() != want {
			t.Errorf("0 of %d: %q %d", most, b, r.Done())
		}
	}
}

// TestBytesTorn: P1.1, W2: fewer bytes than stand there, or no number.
func TestBytesTorn(t *testing.T) {
	for _, s := range []string{"", "\x00", "\x01", "\x00\x01", "\x00\x03ab", "\x01\x00abc", "\xff\xff"} {
		r := buf.Read([]byte(s))
		if b := r.Bytes(65535); len(b) != 0 {
			t.Errorf("%q: %q", s, b)
		}
		hasFailed(t, s, r)
	}
}

// TestBytesLongest: P1.1, W2: 65535 bytes.
func TestBytesLongest(t *testing.T) {
	all := bytes.Repeat([]byte("ab"), 1<<15)[:65535]
	r := buf.Read(append([]byte("\xff\xff"), all...))
	if b := r.Bytes(65535); !bytes.Equal(b, all) || r.Done() != api.OK {
		t.Errorf("%d bytes", len(b))
	}
	r = buf.Read(append([]byte("\xff\xff"), all...))
	if b := r.Bytes(65534); len(b) != 0 {
		t.Errorf("%d bytes of 65534", len(b))
	}
	hasFailed(t, "65535 of 65534", r)
}

// TestFailedBehind: P1.1, W2: what was taken ahead of the fault stays told; nothing comes behind it.
func TestFailedBehind(t *testing.T) {
	wrong := map[string]func(r *buf.Reader) bool{
		"a width":        func(r *buf.Reader) bool { return r.Get(9) == 0 },
		"a long number":  func(r *buf.Reader) bool { return r.Get(8) == 0 },
		"too many bytes": func(r *buf.Reader) bool { return len(r.Bytes(1)) == 0 },
	}
	for what, f := range wrong {
		r := buf.Read([]byte("\x05\x00\x02ab\x01"))
		if n := r.Get(1); n != 5 {
			t.Errorf("%s: ahead %d", what, n)
		}
		if !f(r) {
			t.Errorf("%s: something came", what)
		}
		hasFailed(t, what, r)
	}
}

// TestLeft: P1.1, W2: something left is ErrForm, but no failure: it can still be read.
func TestLeft(t *testing.T) {
	r := buf.Read([]byte("\x01\x02\x00\x01a!"))
	for _, want := range []int{1, 2} {
		if r.Done() != api.ErrForm || r.Done() != api.ErrForm {
			t.Error("left, but not told")
		}
		if n := r.Get(1); n != want {
			t.Errorf("Get: %d", n)
		}
	}
	if r.Done() != api.ErrForm || string(r.Bytes(1)) != "a" || r.Done() != api.ErrForm || r.Get(1) != '!' {
		t.Error("not read on")
	}
	if r.Done() != api.OK || r.Done() != api.OK {
		t.Error("nothing left")
	}
}

// TestRest: P1.1, W2: Rest takes all that is left, once.
func TestRest(t *testing.T) {
	r := buf.Read([]byte("abc"))
	if b := r.Rest(); string(b) != "abc" || r.Done() != api.OK {
		t.Errorf("all: %q", b)
	}
	if b := r.Rest(); len(b) != 0 || r.Done() != api.OK {
		t.Errorf("again: %q", b)
	}
	if n := r.Get(1); n != 0 {
		t.Errorf("behind: %d", n)
	}
	hasFailed(t, "behind all", r)
}

// TestReadNothing: P1.1, W2: of no bytes nothing comes, and nothing is left.
func TestReadNothing(t *testing.T) {
	for _, r := range []*buf.Reader{buf.Read(nil), buf.Read([]byte{}), {}} {
		if r.Done() != api.OK || len(r.Rest()) != 0 || r.Done() != api.OK {
			t.Error("nothing is left")
		}
		if n := r.Get(1); n != 0 {
			t.Errorf("Get: %d", n)
		}
		hasFailed(t, "nothing", r)
	}
}

// TestNilReader: P1.1 and P1.
func TestNilReader(t *testing.T) {
	var r *buf.Reader
	for _, n := range []int{math.MinInt64, -1, 0, 1, 8, 9, math.MaxInt64} {
		if r.Get(n) != 0 || len(r.Bytes(n)) != 0 {
			t.Errorf("%d: something came", n)
		}
	}
	if len(r.Rest()) != 0 || r.Done() != api.ErrArg {
		t.Error("Rest, Done")
	}
}

// TestReaderKeepsNothing: what is handed in is neither kept, nor written into, nor read beyond its length.
func TestReaderKeepsNothing(t *testing.T) {
	room := []byte("\x01\x00\x02abcdef")
	r := buf.Read(room[:7])
	copy(room, "zzzzzzz")
	if n := r.Get(1); n != 1 {
		t.Errorf("Get: %d", n)
	}
	b := r.Bytes(2)
	rest := r.Rest()
	if string(b) != "ab" || string(rest) != "cd" || r.Done() != api.OK {
		t.Errorf("%q %q", b, rest)
	}
	b[0], rest[0] = 'y', 'y'
	_ = append(rest, "yy"...)
	if string(room) != "zzzzzzzef" {
		t.Errorf("written into: %q", room)
	}
}

// TestTakenIsCut: what is taken can be written into, and appended to, and nothing else changes.
func TestTakenIsCut(t *testing.T) {
	r := buf.Read([]byte("\x00\x02ab\x00\x00\x00\x01c\x07de"))
	a, none := r.Bytes(2), r.Bytes(0)
	a[1] = 'z'
	_ = append(a, "zzzzzzzz"...)
	_ = append(none, "zzzzzzzz"...)
	c := r.Bytes(1)
	_ = append(c, "zzzz"...)
	if string(a) != "az" || string(c) != "c" || r.Get(1) != 7 {
		t.Errorf("%q %q", a, c)
	}
	rest := r.Rest()
	_ = append(rest, "zz"...)
	if string(rest) != "de" || string(c) != "c" || r.Done() != api.OK {
		t.Errorf("%q %q", rest, c)
	}
	if cap(a) != 2 || cap(none) != 0 || cap(c) != 1 || cap(rest) != 2 {
		t.Errorf("room: %d %d %d %d", cap(a), cap(none), cap(c), cap(rest))
	}
}

// TestReadersApart: P2: two readers of the same bytes take nothing from each other.
func TestReadersApart(t *testing.T) {
	b := []byte("\x01\x00\x01a")
	x, y := buf.Read(b), buf.Read(b)
	if x.Get(9) != 0 || y.Get(1) != 1 {
		t.Error("Get")
	}
	p := y.Bytes(1)
	p[0] = 'z'
	z := buf.Read(b)
	if z.Get(1) != 1 || string(z.Bytes(1)) != "a" || z.Done() != api.OK || y.Done() != api.OK {
		t.Error("the third")
	}
	hasFailed(t, "the first", x)
}
