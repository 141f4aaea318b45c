package inet_test

import (
	"bytes"
	"testing"

	"rutter/api"
	"rutter/inet"
)

// TestThereAndBack: P4.2: a flow and a body are parsed from their datagram, whose check is 0, and so is the way back.
func TestThereAndBack(t *testing.T) {
	c := chance(6)
	for range 3000 {
		f, body := c.flow(), c.bytes(c.below(60))
		if c.below(50) == 0 {
			body = c.bytes(c.below(1401))
		}
		for _, f := range []api.Flow{f, inet.Back(f)} {
			b, e := inet.Make(f, body)
			if e != api.OK || !bytes.Equal(b, plain(f, body)) || inet.Check(b[:20]) != 0 {
				t.Fatalf("%+v, %q: %q, %d", f, body, b, e)
			}
			parses(t, b, f, body)
		}
		if inet.Back(inet.Back(f)) != f {
			t.Fatalf("%+v: %+v", f, inet.Back(f))
		}
	}
}

// expected is the error of bytes, told anew, in the chapter's order.
func expected(b []byte) api.Errno {
	switch {
	case len(b) < 24 || b[0] != 69 || int(b[2])*256+int(b[3]) != len(b):
		return api.ErrForm
	case plainCheck(b[:20]) != 0:
		return api.ErrSum
	case b[9] != 6 && b[9] != 17:
		return api.ErrKind
	}
	return api.OK
}

// backAgain checks that what is parsed stands in the bytes, that its datagram is parsed likewise, and that all others are told.
func backAgain(t *testing.T, b []byte) {
	t.Helper()
	if want := expected(b); want != api.OK {
		fails(t, b, want)
		return
	}
	f, body, e := inet.Parse(b)
	if e != api.OK || !inet.Right(f) || !bytes.Equal(body, b[24:]) {
		t.Fatalf("%q: %+v, %q, %d", b, f, body, e)
	}
	p := plain(f, body)
	if p[9] != b[9] || !bytes.Equal(p[12:], b[12:]) {
		t.Fatalf("%q: %+v has %q", b, f, p)
	}
	if len(body) > 1400 {
		refuses(t, f, body)
		return
	}
	makes(t, f, body, p)
}

// TestAnyBytes: P4.1, P4.2, and P1: whatever the bytes, from those that are near a datagram's.
func TestAnyBytes(t *testing.T) {
	c := chance(7)
	for range 5000 {
		b := plain(c.flow(), c.bytes(c.below(20)))
		backAgain(t, b)
		b[c.below(len(b))] += byte(c.below(3))
		backAgain(t, b)
		b[[]int{0, 1, 2, 3, 4, 8, 9}[c.below(7)]] = byte(c.below(256))
		backAgain(t, mend(b))
		backAgain(t, b[:c.below(len(b))])
		backAgain(t, append(b, c.bytes(c.below(3))...))
		backAgain(t, c.bytes(c.below(60)))
	}
}

// FuzzParse: as TestAnyBytes, also with the check and the length mended, so that more than the first fault is found; go test runs the seeds alone.
func FuzzParse(f *testing.F) {
	f.Add(plain(ordinary(), []byte("body")))
	f.Add(plain(api.Flow{Proto: 17}, make([]byte, 1401)))
	for _, n := range []int{0, 23, 24, 25} {
		f.Add(make([]byte, n))
	}
	f.Fuzz(func(t *testing.T, b []byte) {
		backAgain(t, b)
		if n := inet.Check(b); n != plainCheck(b) {
			t.Fatalf("%q: %d", b, n)
		}
		if len(b) < 24 || len(b) > 65535 {
			return
		}
		m := bytes.Clone(b)
		m[0], m[2], m[3] = 69, byte(len(m)>>8), byte(len(m))
		backAgain(t, mend(m))
	})
}

// TestKept: P2: the same calls answer the same; what is handed in is neither written into nor kept, and an answer is new memory.
func TestKept(t *testing.T) {
	room := []byte("body, and room behind it")
	was := bytes.Clone(room)
	x, _ := inet.Make(ordinary(), room[:4])
	y, _ := inet.Make(ordinary(), room[:4])
	want := plain(ordinary(), []byte("body"))
	clear(x[:cap(x)])
	if !bytes.Equal(y, want) || !bytes.Equal(room, was) {
		t.Errorf("made: %q; handed in: %q", y, room)
	}
	clear(room)
	if !bytes.Equal(y, want) {
		t.Errorf("the body is kept: %q", y)
	}
}

// TestBodiesKept: P2: as TestKept, of what is parsed, with and without a body.
func TestBodiesKept(t *testing.T) {
	for _, body := range []string{"body", "b", ""} {
		all := append(plain(ordinary(), []byte(body)), "room"...)
		n := 24 + len(body)
		was := bytes.Clone(all)
		_, x, _ := inet.Parse(all[:n])
		_, y, _ := inet.Parse(all[:n])
		clear(x[:cap(x)])
		_ = append(x, "more"...)
		if string(y) != body || !bytes.Equal(all, was) {
			t.Errorf("%q: parsed: %q; handed in: %q", body, y, all)
		}
		clear(all)
		if string(y) != body {
			t.Errorf("%q: the bytes are kept: %q", body, y)
		}
		fails(t, all[:n], api.ErrForm)
	}
}
