package disk_test

import (
	"bytes"
	"math"
	"strings"
	"testing"

	"rutter/api"
	"rutter/disk"
)

// plain is what a file is, told anew in the simplest way: the safe bytes, those behind them, and how many there may be.
type plain struct {
	safe, loose string
	room        int
}

func (p *plain) add(s string) api.Errno {
	if len(p.safe)+len(p.loose)+len(s) > p.room {
		return api.ErrFull
	}
	p.loose += s
	return api.OK
}

func (p *plain) sync() int {
	p.safe, p.loose = p.safe+p.loose, ""
	return len(p.safe)
}

func (p *plain) cut(n int) api.Errno {
	all := p.safe + p.loose
	if n < 0 || n > len(all) {
		return api.ErrArg
	}
	p.safe, p.loose = all[:n], ""
	return api.OK
}

func (p *plain) crash(keep int) int {
	went := 0
	for len(p.loose) > 0 && len(p.loose) > keep {
		p.loose = p.loose[:len(p.loose)-1]
		went++
	}
	p.sync()
	return went
}

// both is a file, and a plain one to hold it against.
type both struct {
	f *disk.File
	p *plain
}

func two(t *testing.T, room int) both {
	t.Helper()
	return both{made(t, room), &plain{room: room}}
}

// step is a call of both; it tells whether they answered the same.
type step func(b both) bool

func add(s string) step {
	return func(b both) bool { return b.f.Add([]byte(s)...) == b.p.add(s) }
}

func synced(b both) bool { return b.f.Sync() == b.p.sync() }

func cut(n int) step {
	return func(b both) bool { return b.f.Cut(n) == b.p.cut(n) }
}

// crash looks at P7.2, too.
func crash(keep int) step {
	return func(b both) bool {
		was, safe := string(b.f.Bytes()), b.f.Safe()
		same := b.f.Crash(keep) == b.p.crash(keep)
		is := string(b.f.Bytes())
		return same && strings.HasPrefix(was, is) && strings.HasPrefix(is, was[:safe])
	}
}

// same tells whether both have the same.
func (b both) same() bool {
	return string(b.f.Bytes()) == b.p.safe+b.p.loose && b.f.Safe() == len(b.p.safe)
}

// TestOrders: P7.1, P7.2: any orders of these calls, one behind the other, of files with little room.
func TestOrders(t *testing.T) {
	steps := []step{
		add(""), add("a"), add("bc"), add("defg"), synced, cut(-1), cut(0), cut(1), cut(3),
		crash(-1), crash(0), crash(1), crash(2), crash(math.MinInt64), crash(math.MaxInt64),
	}
	n := len(steps)
	for room := range 6 {
		for order := range n * n * n * n {
			b := two(t, room)
			for left, i := order, 0; i < 4; left, i = left/n, i+1 {
				if !steps[left%n](b) || !b.same() {
					t.Fatalf("room %d, order %d: step %d, behind call %d: %q, %d safe; want %+v", room, order, i, left%n, b.f.Bytes(), b.f.Safe(), *b.p)
				}
			}
		}
	}
}

// chance tells numbers that look like chance, the same in each run.
type chance uint64

func (c *chance) below(n int) int {
	*c = *c*6364136223846793005 + 1442695040888963407
	return int(uint64(*c) >> 33 % uint64(n))
}

func (c *chance) bytes(n int) []byte {
	b := make([]byte, n)
	for i := range b {
		b[i] = byte(c.below(256))
	}
	return b
}

// likePlain does what bytes say with a file of so much room, and holds it against a plain one; each two bytes are a call, and its number.
func likePlain(t *testing.T, room uint16, l []byte) {
	t.Helper()
	b := two(t, int(room))
	for i := 0; i+1 < len(l); i += 2 {
		n := int(int8(l[i+1]))
		call := []step{
			add(strings.Repeat(string(rune('a'+i%26)), n&63)), synced, cut(n), crash(n), cut(len(b.p.safe) + n), cut(len(b.p.safe+b.p.loose) - n&7),
			crash(len(b.p.loose) + n), crash(n << 57),
		}[l[i]%8]
		if !call(b) || !b.same() {
			t.Fatalf("room %d, %q: call %d: %q, %d safe; want %+v", room, l, i/2, b.f.Bytes(), b.f.Safe(), *b.p)
		}
	}
}

// TestAnyCalls: P7.1, P7.2, and P1: many calls, one behind the other.
func TestAnyCalls(t *testing.T) {
	c := chance(1)
	for range 4000 {
		room, l := c.below(400), c.bytes(2*c.below(60))
		for i := 0; i < len(l); i += 2 { // mostly what adds, so that the file fills
			if c.below(2) == 0 {
				l[i] = 0
			}
		}
		likePlain(t, uint16(room), l)
	}
}

// FuzzCalls: as TestAnyCalls; go test runs the seeds alone.
func FuzzCalls(f *testing.F) {
	f.Add(uint16(0), []byte{0, 1, 0, 0})
	f.Add(uint16(9), []byte{0, 5, 1, 0, 0, 4, 3, 2, 0, 4, 2, 7, 7, 127})
	f.Add(uint16(300), []byte{0, 63, 0, 63, 1, 0, 0, 63, 4, 253, 0, 9, 6, 255, 7, 128, 5, 1})
	f.Fuzz(likePlain)
}

// TestSameAnswers: P2: the same calls on other files answer the same, whatever is done with these between.
func TestSameAnswers(t *testing.T) {
	a, b, other := made(t, 8), made(t, 8), made(t, 8)
	for i, call := range []func(f *disk.File) int{
		func(f *disk.File) int { return int(f.Add('a', 'b', 'c')) },
		func(f *disk.File) int { return f.Sync() },
		func(f *disk.File) int { return int(f.Add('x', 'y', 'z')) },
		func(f *disk.File) int { return int(f.Add('1', '2', '3')) },
		func(f *disk.File) int { return f.Crash(2) },
		func(f *disk.File) int { return int(f.Cut(6)) },
		func(f *disk.File) int { return int(f.Cut(4)) },
	} {
		n := call(a)
		other.Add('o')
		other.Crash(i)
		if m := call(b); n != m || !bytes.Equal(a.Bytes(), b.Bytes()) || a.Safe() != b.Safe() {
			t.Errorf("call %d: %d, %q; then %d, %q", i, n, a.Bytes(), m, b.Bytes())
		}
	}
	has(t, "the first", a, "abcx", 4)
}

// spoil writes into all that bytes' memory has.
func spoil(b []byte) {
	b = b[:cap(b)]
	for i := range b {
		b[i] = '!'
	}
}

// TestBytesAreNew: what Bytes answers is new memory: neither the file's, nor that of another answer.
func TestBytesAreNew(t *testing.T) {
	for _, c := range several() {
		f := file(t, 16, c[0], c[1])
		a, b := f.Bytes(), f.Bytes()
		spoil(a)
		_ = append(a, '!')
		if string(b) != c[0]+c[1] {
			t.Errorf("%q: another answer: %q", c, b)
		}
		has(t, "spoilt", f, c[0]+c[1], len(c[0]))
		adds(t, f, "123", api.OK)
		has(t, "and more", f, c[0]+c[1]+"123", len(c[0]))
		spoil(b)
		has(t, "spoilt again", f, c[0]+c[1]+"123", len(c[0]))
	}
}

// TestBytesStay: what Bytes answered stays, whatever is done with the file.
func TestBytesStay(t *testing.T) {
	f := file(t, 16, "abc", "xyz")
	b := f.Bytes()
	room := b[:cap(b)]
	was := string(room)
	f.Crash(1)
	f.Add('1', '2', '3')
	f.Cut(2)
	f.Add('4', '5', '6', '7')
	f.Cut(0)
	f.Add('8')
	if string(b) != "abcxyz" || string(room) != was {
		t.Errorf("%q, %q; want %q", b, room, was)
	}
}

// TestAddKeepsNothing: what is handed to Add is neither kept nor written into, nor what lies behind it; of a file to which nothing was added ahead, too.
func TestAddKeepsNothing(t *testing.T) {
	emptied := file(t, 64, "abcd", "")
	emptied.Cut(0)
	for i, f := range []*disk.File{made(t, 64), made(t, 38), file(t, 64, "", ""), file(t, 64, "a", ""), file(t, 64, "abcd", ""), emptied} {
		first := string(f.Bytes())
		room := []byte("xyz--------------------------------")
		was := string(room)
		if e := f.Add(room[:3]...); e != api.OK {
			t.Fatalf("%d: Add: %d", i, e)
		}
		f.Add('1', '2')
		f.Crash(4)
		f.Cut(len(first) + 1)
		f.Add('3', '4', '5')
		if string(room) != was {
			t.Errorf("%d: written into: %q", i, room)
		}
		spoil(room)
		has(t, "kept", f, first+"x345", len(first)+1)
	}
}

// TestAddAloneKeepsNothing: nor where nothing is done behind it, and what was handed in is written into.
func TestAddAloneKeepsNothing(t *testing.T) {
	f := made(t, 8)
	b := []byte("xyz")
	f.Add(b...)
	spoil(b)
	has(t, "kept", f, "xyz", 0)
}

// TestAddNoRoomKeepsNothing: nor is what had no room.
func TestAddNoRoomKeepsNothing(t *testing.T) {
	f := file(t, 4, "ab", "x")
	room := []byte("123----")
	if e := f.Add(room[:3]...); e != api.ErrFull || string(room) != "123----" {
		t.Errorf("%d, %q", e, room)
	}
	spoil(room)
	has(t, "no room", f, "abx", 2)
}

// TestAddOfItself: a file's own bytes, handed back to it.
func TestAddOfItself(t *testing.T) {
	f := file(t, 12, "ab", "x")
	f.Add(f.Bytes()...)
	has(t, "twice", f, "abxabx", 2)
	f.Add(f.Bytes()...)
	has(t, "and again", f, "abxabxabxabx", 2)
}
