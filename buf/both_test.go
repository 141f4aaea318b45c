package buf_test

import (
	"bytes"
	"encoding/binary"
	"math"
	"testing"

	"rutter/api"
	"rutter/buf"
)

// part is what is written, and read, at once: bytes, if n is 0, else numbers of n bytes.
type part struct {
	n       int
	numbers []int
	bytes   []byte
}

// chance tells numbers that look like chance, the same in each run.
type chance uint64

func (c *chance) below(n int) int {
	*c = *c*6364136223846793005 + 1442695040888963407
	return int(uint64(*c) >> 33 % uint64(n))
}

func (c *chance) number(n int) int {
	switch c.below(4) {
	case 0:
		return 0
	case 1:
		return greatest(n)
	}
	return (c.below(1<<31)<<32 | c.below(1<<31)<<1 | c.below(2)) & greatest(n)
}

func (c *chance) part() part {
	p := part{n: c.below(9)}
	if p.n == 0 {
		p.bytes = make([]byte, c.below(5)*c.below(9))
		for i := range p.bytes {
			p.bytes[i] = byte(c.below(256))
		}
		return p
	}
	for range c.below(4) {
		p.numbers = append(p.numbers, c.number(p.n))
	}
	return p
}

func (c *chance) parts() []part {
	var l []part
	for range 1 + c.below(8) {
		l = append(l, c.part())
	}
	return l
}

func write(l []part) ([]byte, api.Errno) {
	w := &buf.Writer{}
	for _, p := range l {
		if p.n == 0 {
			w.Bytes(p.bytes)
		} else {
			w.Put(p.n, p.numbers...)
		}
	}
	return w.Done()
}

// read reads as parts were written, and tells whether all of them came.
func read(b []byte, l []part) (bool, api.Errno) {
	r, same := buf.Read(b), true
	for _, p := range l {
		if p.n == 0 {
			same = bytes.Equal(r.Bytes(len(p.bytes)), p.bytes) && same
		}
		for _, x := range p.numbers {
			same = r.Get(p.n) == x && same
		}
	}
	return same, r.Done()
}

// TestThereAndBack: P1.2: what was written is read, and nothing is left; a beginning of it is told, and so is more.
func TestThereAndBack(t *testing.T) {
	c := chance(1)
	for i := range 2000 {
		l := c.parts()
		b, e := write(l)
		if e != api.OK {
			t.Fatalf("%d: %v: not written: %d", i, l, e)
		}
		if same, e := read(b, l); !same || e != api.OK {
			t.Fatalf("%d: %v: not read: %d", i, l, e)
		}
		for n := range b {
			if _, e := read(b[:n], l); e != api.ErrForm {
				t.Fatalf("%d: %v: %d of %d bytes: %d", i, l, n, len(b), e)
			}
		}
		if _, e := read(append(b, 0), l); e != api.ErrForm {
			t.Fatalf("%d: %v: a byte more: %d", i, l, e)
		}
	}
}

// TestAllWidthsBack: P1.2 at the edges of each width.
func TestAllWidthsBack(t *testing.T) {
	for n := 1; n <= 8; n++ {
		p := part{n: n}
		for k := range 8*n - n/8 {
			p.numbers = append(p.numbers, 1<<k-1, 1<<k, greatest(n)-(1<<k-1), greatest(n)^1<<k)
		}
		b, e := write([]part{p})
		if e != api.OK || len(b) != n*len(p.numbers) {
			t.Fatalf("%d: %d bytes, %d", n, len(b), e)
		}
		if same, e := read(b, []part{p}); !same || e != api.OK {
			t.Errorf("%d: not read: %d", n, e)
		}
	}
}

// TestSameAgain: P2: the same calls on other objects answer the same.
func TestSameAgain(t *testing.T) {
	c := chance(2)
	for range 200 {
		l := c.parts()
		a, e := write(l)
		b, f := write(l)
		if !bytes.Equal(a, b) || e != f {
			t.Fatalf("%v: %q %q", l, a, b)
		}
	}
}

// plain is what a reader is, told anew in the simplest way: bytes, how many are taken, and whether it failed.
type plain struct {
	b      []byte
	at     int
	failed bool
}

func (p *plain) get(n int) int {
	if p.failed || n < 1 || n > 8 || len(p.b)-p.at < n {
		p.failed = true
		return 0
	}
	x := binary.BigEndian.Uint64(append(make([]byte, 8-n), p.b[p.at:p.at+n]...))
	if x > math.MaxInt64 {
		p.failed = true
		return 0
	}
	p.at += n
	return int(x)
}

func (p *plain) bytes(most int) []byte {
	if p.failed || len(p.b)-p.at < 2 {
		p.failed = true
		return nil
	}
	n := int(p.b[p.at])*256 + int(p.b[p.at+1])
	if n > most || len(p.b)-p.at-2 < n {
		p.failed = true
		return nil
	}
	p.at += 2 + n
	return p.b[p.at-n : p.at]
}

func (p *plain) rest() []byte {
	if p.failed {
		return nil
	}
	b := p.b[p.at:]
	p.at = len(p.b)
	return b
}

func (p *plain) done() api.Errno {
	if p.failed || p.at < len(p.b) {
		return api.ErrForm
	}
	return api.OK
}

// likePlain does what steps say with a reader, and holds it against a plain one.
func likePlain(t *testing.T, b, steps []byte) {
	t.Helper()
	r, p := buf.Read(b), &plain{b: b}
	for i, s := range steps {
		n := int(int8(s)) >> 2
		switch s & 3 {
		case 0, 1:
			if x, y := r.Get(n), p.get(n); x != y {
				t.Fatalf("%q %q: step %d: Get(%d): %d; want %d", b, steps, i, n, x, y)
			}
		case 2:
			if x, y := r.Bytes(n), p.bytes(n); !bytes.Equal(x, y) {
				t.Fatalf("%q %q: step %d: Bytes(%d): %q; want %q", b, steps, i, n, x, y)
			}
		default:
			if n != 0 { // Rest seldom, else nothing is left for the others
				break
			}
			if x, y := r.Rest(), p.rest(); !bytes.Equal(x, y) {
				t.Fatalf("%q %q: step %d: Rest: %q; want %q", b, steps, i, x, y)
			}
		}
		if x, y := r.Done(), p.done(); x != y {
			t.Fatalf("%q %q: step %d: Done: %d; want %d", b, steps, i, x, y)
		}
	}
}

// TestAnyBytes: P1.1, W2, and P1: whatever the bytes, and the steps.
func TestAnyBytes(t *testing.T) {
	c := chance(3)
	for range 20000 {
		b, steps := make([]byte, c.below(40)), make([]byte, c.below(12))
		for i := range b { // small ones mostly, so that bytes come
			b[i] = byte(c.below(256) >> (c.below(3) * 3))
		}
		for i := range steps {
			steps[i] = byte(c.below(256) >> c.below(4))
		}
		likePlain(t, b, steps)
	}
}

// FuzzReader: as TestAnyBytes; go test runs the seeds alone.
func FuzzReader(f *testing.F) {
	f.Add([]byte("\x01\x00\x02ab\x80\x00\x00\x00\x00\x00\x00\x00"), []byte{4, 10, 32, 3})
	f.Add([]byte{}, []byte{0, 2, 3, 255, 128})
	f.Fuzz(likePlain)
}
