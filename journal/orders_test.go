package journal_test

import (
	"bytes"
	"math"
	"slices"
	"strings"
	"testing"

	"rutter/api"
	"rutter/disk"
	"rutter/journal"
)

// chance tells numbers that look like chance, the same in each run.
type chance uint64

func (c *chance) below(n int) int {
	*c = *c*6364136223846793005 + 1442695040888963407
	return int(uint64(*c) >> 33 % uint64(n))
}

func (c *chance) bytes(n int) []byte {
	b := make([]byte, n)
	for i := range b {
		b[i] = byte(c.below(256))
	}
	return b
}

// spoil writes into all that bytes' memory has.
func spoil(b []byte) {
	b = b[:cap(b)]
	for i := range b {
		b[i] = '!'
	}
}

// plain is what a journal is, told anew in the simplest way: its file's bytes, how many of them are safe, and how many there may be.
type plain struct {
	all        string
	safe, room int
}

func (p *plain) add(s string) api.Errno {
	if len(p.all)+len(s) > p.room {
		return api.ErrFull
	}
	p.all += s
	return api.OK
}

func (p *plain) put(body string) api.Errno {
	if len(body) < 1 || len(body) > 200 {
		return api.ErrArg
	}
	return p.add(record(body))
}

func (p *plain) cut(n int) api.Errno {
	if n < 0 || n > len(p.all) {
		return api.ErrArg
	}
	p.all, p.safe = p.all[:n], n
	return api.OK
}

func (p *plain) crash(keep int) int {
	went := 0
	for len(p.all) > p.safe && len(p.all)-p.safe > keep {
		p.all = p.all[:len(p.all)-1]
		went++
	}
	p.safe = len(p.all)
	return went
}

func (p *plain) open() []string {
	l, n := expected(p.all)
	if n < len(p.all) {
		p.cut(n)
	}
	return l
}

// both is a journal, and a plain one to hold it against.
type both struct {
	j *journal.Journal
	p *plain
}

func two(t *testing.T, room int) *both {
	t.Helper()
	j, _ := made(t, room)
	return &both{j, &plain{room: room}}
}

// step is a call of both; it tells whether they answered the same.
type step func(b *both) bool

func put(body string) step {
	return func(b *both) bool { return b.j.Put([]byte(body)) == b.p.put(body) }
}

func synced(b *both) bool {
	b.j.Sync()
	b.p.safe = len(b.p.all)
	return true
}

// opened goes on with another journal, of the same file.
func opened(b *both) bool {
	j, l, e := journal.Open(b.j.File)
	b.j = j
	return e == api.OK && slices.Equal(texts(l), b.p.open())
}

func add(s string) step {
	return func(b *both) bool { return b.j.Add([]byte(s)...) == b.p.add(s) }
}

func cut(n int) step {
	return func(b *both) bool { return b.j.Cut(n) == b.p.cut(n) }
}

func crash(keep int) step {
	return func(b *both) bool { return b.j.Crash(keep) == b.p.crash(keep) }
}

// same tells whether both have the same.
func (b *both) same() bool {
	l, _ := expected(b.p.all)
	return string(b.j.Bytes()) == b.p.all && b.j.Safe() == b.p.safe && b.j.Len() == len(l)
}

// TestOrders: P8.1, P8.2: any orders of these calls, one behind the other, of files with little room.
func TestOrders(t *testing.T) {
	steps := []step{
		put(""), put("a"), put("bc"), put(sumless), synced, opened, add("x"), add(record("y")), cut(0), cut(7), cut(-1),
		crash(0), crash(1), crash(8), crash(math.MaxInt64),
	}
	n := len(steps)
	for _, room := range []int{0, 6, 7, 14, 16, 23, 40} {
		for order := range n * n * n * n {
			b := two(t, room)
			for left, i := order, 0; i < 4; left, i = left/n, i+1 {
				if !steps[left%n](b) || !b.same() {
					t.Fatalf("room %d, order %d: step %d, behind call %d: %q, %d safe, %d records; want %+v", room, order, i, left%n, b.j.Bytes(), b.j.Safe(), b.j.Len(), *b.p)
				}
			}
		}
	}
}

// likePlain does what bytes say with a journal whose file has so much room, and holds it against a plain one; each two bytes are a call, and its number.
func likePlain(t *testing.T, room uint16, l []byte) {
	t.Helper()
	b := two(t, int(room))
	for i := 0; i+1 < len(l); i += 2 {
		n := int(l[i+1])
		body := strings.Repeat(string(rune('a'+i%26)), n)
		call := []step{
			put(body), put(body[:n&15]), put(sumless), synced, opened, crash(n), crash(len(b.p.all) - b.p.safe - n&15), cut(len(b.p.all) - n&15),
			add(body[:n&7]), add(record("added")), add(record("added")[:n%12]), crash(n<<56 - 1),
		}[l[i]%12]
		if !call(b) || !b.same() {
			t.Fatalf("room %d, %q: call %d: %q, %d safe, %d records; want %+v", room, l, i/2, b.j.Bytes(), b.j.Safe(), b.j.Len(), *b.p)
		}
	}
}

// TestAnyCalls: P8.1, P8.2, and P1: many calls, one behind the other.
func TestAnyCalls(t *testing.T) {
	c := chance(7)
	for range 2000 {
		room, l := c.below(600), c.bytes(2*c.below(40))
		for i := 0; i < len(l); i += 2 { // mostly what puts, so that there are records
			if c.below(2) == 0 {
				l[i] = 1
			}
		}
		likePlain(t, uint16(room), l)
	}
}

// FuzzCalls: as TestAnyCalls; go test runs the seeds alone.
func FuzzCalls(f *testing.F) {
	f.Add(uint16(0), []byte{0, 1, 4, 0})
	f.Add(uint16(30), []byte{1, 3, 3, 0, 2, 0, 5, 9, 4, 0, 1, 2, 11, 255})
	f.Add(uint16(500), []byte{0, 200, 0, 201, 1, 9, 8, 3, 9, 0, 4, 0, 10, 11, 6, 2, 4, 0, 0, 77, 7, 1, 3, 0, 5, 0})
	f.Fuzz(likePlain)
}

// TestSameAnswers: P2: the same calls on other files' journals answer the same, whatever is done with these between.
func TestSameAnswers(t *testing.T) {
	a, f := made(t, 30)
	b, g := made(t, 30)
	other, _ := made(t, 1000)
	for i, call := range []func(j *journal.Journal, f *disk.File) int{
		func(j *journal.Journal, _ *disk.File) int { return int(j.Put([]byte("abc"))) },
		func(j *journal.Journal, _ *disk.File) int { j.Sync(); return j.Len() },
		func(j *journal.Journal, _ *disk.File) int { return int(j.Put(nil)) },
		func(j *journal.Journal, _ *disk.File) int { return int(j.Put([]byte("journal"))) },
		func(j *journal.Journal, _ *disk.File) int { return int(j.Put([]byte("rutter"))) },
		func(_ *journal.Journal, f *disk.File) int { return f.Crash(12) },
		func(j *journal.Journal, _ *disk.File) int { return j.Len() },
		func(_ *journal.Journal, f *disk.File) int { _, l, e := journal.Open(f); return 100*len(l) + int(e) },
	} {
		n := call(a, f)
		other.Put(make([]byte, i))
		other.Crash(i)
		if m := call(b, g); n != m || !bytes.Equal(f.Bytes(), g.Bytes()) || f.Safe() != g.Safe() {
			t.Errorf("call %d: %d, %q; then %d, %q", i, n, f.Bytes(), m, g.Bytes())
		}
	}
	has(t, "the first", f, record("abc"), 9)
}
