package buf_test

import (
	"bytes"
	"math"
	"testing"

	"rutter/api"
	"rutter/buf"
)

// greatest is the greatest number of n bytes.
func greatest(n int) int {
	if n == 8 {
		return math.MaxInt64
	}
	return 1<<(8*n) - 1
}

// written checks what a Writer has.
func written(t *testing.T, what string, w *buf.Writer, want string) {
	t.Helper()
	if b, e := w.Done(); string(b) != want || e != api.OK {
		t.Errorf("%s: %q, %d; want %q", what, b, e, want)
	}
}

// refused checks that a Writer tells ErrArg, and nothing.
func refused(t *testing.T, what string, w *buf.Writer) {
	t.Helper()
	if b, e := w.Done(); len(b) != 0 || e != api.ErrArg {
		t.Errorf("%s: %d bytes, %d; want none, %d", what, len(b), e, api.ErrArg)
	}
}

// TestWritten: P1.1, W1, ordinary inputs.
func TestWritten(t *testing.T) {
	none := func() *buf.Writer { return &buf.Writer{} }
	written(t, "zero", none(), "")
	written(t, "no numbers", none().Put(1).Put(8), "")
	written(t, "one", none().Put(1, 7), "\x07")
	written(t, "highest first", none().Put(4, 0x01020304), "\x01\x02\x03\x04")
	written(t, "in order", none().Put(2, 1, 2, 3), "\x00\x01\x00\x02\x00\x03")
	written(t, "no bytes", none().Bytes(nil), "\x00\x00")
	written(t, "bytes", none().Bytes([]byte("abc")), "\x00\x03abc")
	written(t, "behind all others", none().Bytes([]byte("a")).Put(3, 5).Bytes([]byte("b")).Put(1, 6), "\x00\x01a\x00\x00\x05\x00\x01b\x06")
}

// TestTellsTheWriter: P1.1, W1: a chain goes on with the same one, a wrong one too.
func TestTellsTheWriter(t *testing.T) {
	w := &buf.Writer{}
	if w.Put(1, 2) != w || w.Bytes(nil) != w {
		t.Error("another Writer")
	}
	if w.Put(1, 256) != w || w.Put(1, 1) != w || w.Bytes(nil) != w {
		t.Error("another Writer behind an error")
	}
}

// TestWidest: P1.1, W1: of each n the least and the greatest number, and one beyond.
func TestWidest(t *testing.T) {
	for n := 1; n <= 8; n++ {
		least := string(make([]byte, n))
		most := bytes.Repeat([]byte{0xff}, n)
		if n == 8 {
			most[0] = 0x7f
		}
		written(t, "least", (&buf.Writer{}).Put(n, 0), least)
		written(t, "greatest", (&buf.Writer{}).Put(n, greatest(n)), string(most))
		refused(t, "below", (&buf.Writer{}).Put(n, -1))
		refused(t, "least int", (&buf.Writer{}).Put(n, math.MinInt64))
		if n < 8 {
			refused(t, "above", (&buf.Writer{}).Put(n, greatest(n)+1))
			refused(t, "greatest int", (&buf.Writer{}).Put(n, math.MaxInt64))
		}
	}
}

// TestNoSuchWidth: P1.1, W1: n from 1 to 8 alone, whatever the numbers are, and without any.
func TestNoSuchWidth(t *testing.T) {
	for _, n := range []int{0, 9, -1, -8, 10, 16, 64, math.MinInt64, math.MaxInt64} {
		refused(t, "with 0", (&buf.Writer{}).Put(n, 0))
		refused(t, "with 1", (&buf.Writer{}).Put(n, 1))
		refused(t, "without", (&buf.Writer{}).Put(n))
		refused(t, "behind others", (&buf.Writer{}).Put(1, 1).Put(n, 0))
	}
}

// TestOneOfMany: P1.1, W1: one number that doesn't fit is enough, wherever it stands.
func TestOneOfMany(t *testing.T) {
	for i := range 5 {
		l := []int{1, 2, 3, 4, 5}
		l[i] = 256
		refused(t, "above", (&buf.Writer{}).Put(1, l...))
		l[i] = -1
		refused(t, "below", (&buf.Writer{}).Put(1, l...))
	}
}

// TestManyBytes: P1.1, W1: 65535 bytes go, 65536 don't.
func TestManyBytes(t *testing.T) {
	b := bytes.Repeat([]byte("x"), 65535)
	written(t, "65535", (&buf.Writer{}).Bytes(b), "\xff\xff"+string(b))
	written(t, "twice", (&buf.Writer{}).Bytes(b).Bytes(b), "\xff\xff"+string(b)+"\xff\xff"+string(b))
	refused(t, "65536", (&buf.Writer{}).Bytes(make([]byte, 65536)))
	refused(t, "65537", (&buf.Writer{}).Bytes(make([]byte, 65537)))
	refused(t, "2^20", (&buf.Writer{}).Bytes(make([]byte, 1<<20)))
}

// TestErrorStays: P1.1, W1: once it was so, always.
func TestErrorStays(t *testing.T) {
	wrong := map[string]func(w *buf.Writer){
		"a number": func(w *buf.Writer) { w.Put(2, 65536) },
		"a width":  func(w *buf.Writer) { w.Put(0) },
		"bytes":    func(w *buf.Writer) { w.Bytes(make([]byte, 65536)) },
	}
	for what, f := range wrong {
		w := (&buf.Writer{}).Put(1, 1).Bytes([]byte("ab"))
		written(t, what+": ahead", w, "\x01\x00\x02ab")
		f(w)
		refused(t, what, w)
		refused(t, what+": again", w)
		refused(t, what+": a number behind", w.Put(1, 1))
		refused(t, what+": bytes behind", w.Bytes([]byte("c")))
		refused(t, what+": nothing behind", w.Put(1).Bytes(nil))
	}
}

// TestWriteOn: P1.1, W1: Done tells all, as often as it is asked, and ends nothing.
func TestWriteOn(t *testing.T) {
	w := (&buf.Writer{}).Put(1, 1)
	written(t, "one", w, "\x01")
	written(t, "again", w, "\x01")
	written(t, "two", w.Put(1, 2), "\x01\x02")
	written(t, "bytes", w.Bytes([]byte("a")), "\x01\x02\x00\x01a")
}

// TestNilWriter: P1.1 and P1.
func TestNilWriter(t *testing.T) {
	var w *buf.Writer
	for _, n := range []int{math.MinInt64, -1, 0, 1, 8, 9} {
		if w.Put(n) != nil || w.Put(n, 1) != nil || w.Put(n, -1, 256) != nil {
			t.Errorf("Put %d", n)
		}
	}
	if w.Bytes(nil) != nil || w.Bytes([]byte("a")) != nil || w.Bytes(make([]byte, 65536)) != nil {
		t.Error("Bytes")
	}
	refused(t, "Done", w)
	refused(t, "a chain", w.Put(1, 1).Bytes([]byte("a")))
}

// TestWriterKeepsNothing: what is handed in is neither kept, nor written into, nor read beyond its length.
func TestWriterKeepsNothing(t *testing.T) {
	room := []byte("abcdef")
	numbers := []int{1, 2, 300}
	w := (&buf.Writer{}).Bytes(room[:3]).Put(1, numbers[:2]...)
	room[0], numbers[0] = 'z', 9
	written(t, "changed behind", w.Bytes([]byte("g")), "\x00\x03abc\x01\x02\x00\x01g")
	if string(room) != "zbcdef" || numbers[1] != 2 || numbers[2] != 300 {
		t.Errorf("written into: %q %v", room, numbers)
	}
}

// TestWrittenIsNew: no two answers share what a later call looks at.
func TestWrittenIsNew(t *testing.T) {
	w := (&buf.Writer{}).Put(1, 1, 2)
	a, _ := w.Done()
	a[0] = 9
	_ = append(a, 9)
	written(t, "changed", w, "\x01\x02")
	b, _ := w.Done()
	w.Put(1, 3)
	_ = append(b, 9)
	if string(b) != "\x01\x02" {
		t.Errorf("changed by Put: %q", b)
	}
	written(t, "appended", w, "\x01\x02\x03")
}

// TestWritersApart: P2: what one Writer does hangs on no other one.
func TestWritersApart(t *testing.T) {
	a, b, c := &buf.Writer{}, &buf.Writer{}, &buf.Writer{}
	for i := range 100 {
		a.Put(1, i)
		b.Put(1, 100-i)
		c.Put(1, i-1)
	}
	x, _ := a.Done()
	y, _ := b.Done()
	for i := range 100 {
		if int(x[i]) != i || int(y[i]) != 100-i {
			t.Fatalf("%d: %d %d", i, x[i], y[i])
		}
	}
	refused(t, "the third", c)
}
