package journal_test

import (
	"slices"
	"strings"
	"testing"

	"rutter/api"
	"rutter/disk"
	"rutter/journal"
)

// file is one with so much room, and these bytes: those that are safe, and those behind them.
func file(t *testing.T, room int, safe, loose string) *disk.File {
	t.Helper()
	f, e := disk.New(room)
	if e != api.OK || f.Add([]byte(safe)...) != api.OK || f.Sync() != len(safe) || f.Add([]byte(loose)...) != api.OK {
		t.Fatalf("no file of %d bytes with %d and %d", room, len(safe), len(loose))
	}
	return f
}

// opens opens a file's journal, and checks which bodies are told, and how many there are.
func opens(t *testing.T, f *disk.File, want ...string) *journal.Journal {
	t.Helper()
	j, l, e := journal.Open(f)
	if j == nil || e != api.OK {
		t.Fatalf("Open: %v, %d", j, e)
	}
	if !slices.Equal(texts(l), want) || j.Len() != len(want) {
		t.Errorf("Open: %.60q, %d; want %.60q", l, j.Len(), want)
	}
	return j
}

// made is an empty journal whose file has so much room, and the file.
func made(t *testing.T, room int) (*journal.Journal, *disk.File) {
	t.Helper()
	f := file(t, room, "", "")
	return opens(t, f), f
}

// puts puts a body, and checks what is told.
func puts(t *testing.T, j *journal.Journal, body string, want api.Errno) {
	t.Helper()
	if e := j.Put([]byte(body)); e != want {
		t.Errorf("Put of %.40q, %d bytes: %d; want %d", body, len(body), e, want)
	}
}

// has checks which bytes a file has, and how many are safe.
func has(t *testing.T, what string, f *disk.File, want string, safe int) {
	t.Helper()
	if b, n := f.Bytes(), f.Safe(); string(b) != want || n != safe {
		t.Errorf("%s: %.60q, %d bytes, %d safe; want %.60q, %d, %d", what, b, len(b), n, want, len(want), safe)
	}
}

// long checks how many records a journal has, twice, since asking changes nothing.
func long(t *testing.T, what string, j *journal.Journal, want int) {
	t.Helper()
	for range 2 {
		if n := j.Len(); n != want {
			t.Errorf("%s: %d records; want %d", what, n, want)
		}
	}
}

// TestOpenNil: P8.1: a nil file has no journal.
func TestOpenNil(t *testing.T) {
	for range 2 {
		if j, l, e := journal.Open(nil); j != nil || len(l) != 0 || e != api.ErrArg {
			t.Errorf("%v, %q, %d; want none, %d", j, l, e, api.ErrArg)
		}
	}
}

// TestOpenEmpty: P8.1: an empty file's journal has no records.
func TestOpenEmpty(t *testing.T) {
	for _, room := range []int{0, 1, 6, 7, 100, 1 << 24} {
		f := file(t, room, "", "")
		opens(t, f)
		has(t, "opened", f, "", 0)
	}
}

// TestOpenRecords: P8.1: of records alone nothing is cut off; what wasn't safe isn't so by that.
func TestOpenRecords(t *testing.T) {
	l := []string{"a", sumless, rising(200), "\x00"}
	s := records(l...)
	for safe := range len(s) + 1 {
		f := file(t, 300, s[:safe], s[safe:])
		for range 2 {
			long(t, "opened", opens(t, f, l...), 4)
			has(t, "opened", f, s, safe)
		}
		if n := f.Crash(0); n != len(s)-safe {
			t.Errorf("%d safe: %d bytes went", safe, n)
		}
	}
}

// TestOpenCuts: P8.1: what stands behind the records is cut off, whatever it is, right records too; what stays is safe then.
func TestOpenCuts(t *testing.T) {
	for _, l := range [][]string{{"a"}, {sumless}, {"one", "two", "three"}, {rising(200), "\x00"}} {
		s := records(l...)
		for _, wrong := range behind() {
			for _, more := range []string{"", records("right", "too")} {
				all := s + wrong + more
				for _, safe := range []int{0, 1, len(s) - 1, len(s), len(s) + 1, len(all)} {
					f := file(t, 1000, all[:safe], all[safe:])
					opens(t, f, l...)
					has(t, "cut", f, s, len(s))
					opens(t, f, l...)
					has(t, "again", f, s, len(s))
				}
			}
		}
	}
}

// TestOpenNoRecord: P8.1: of a file that begins with no record nothing stays.
func TestOpenNoRecord(t *testing.T) {
	for _, wrong := range behind() {
		for _, more := range []string{"", record("right")} {
			all := wrong + more
			for _, safe := range []int{0, 1, len(all)} {
				f := file(t, 1000, all[:safe], all[safe:])
				j := opens(t, f)
				has(t, "cut", f, "", 0)
				puts(t, j, "a", api.OK)
				has(t, "and more", f, record("a"), 0)
				opens(t, f, "a")
			}
		}
	}
}

// TestOpenCutRoom: P8.1: what was cut off makes room.
func TestOpenCutRoom(t *testing.T) {
	f := file(t, 14, record("a"), "1234567")
	j := opens(t, f, "a")
	puts(t, j, "b", api.OK)
	puts(t, j, "c", api.ErrFull)
	has(t, "full", f, records("a", "b"), 7)
	opens(t, f, "a", "b")
}

// TestPut: P8.1: a body's record is added behind all others, and isn't safe.
func TestPut(t *testing.T) {
	j, f := made(t, 4000)
	l := bodies()
	for i, body := range l {
		puts(t, j, body, api.OK)
		has(t, "put", f, records(l[:i+1]...), 0)
		long(t, "put", j, i+1)
	}
	opens(t, f, l...)
	f = file(t, 4000, records("a", "b"), record("c"))
	j = opens(t, f, "a", "b", "c")
	puts(t, j, "d", api.OK)
	has(t, "put behind others", f, records("a", "b", "c", "d"), 14)
	long(t, "put behind others", j, 4)
}

// TestPutLengths: P8.1: of each length that a body may have.
func TestPutLengths(t *testing.T) {
	for n := 1; n <= 200; n++ {
		j, f := made(t, 206)
		puts(t, j, rising(n), api.OK)
		has(t, "put", f, record(rising(n)), 0)
		opens(t, f, rising(n))
	}
}

// TestPutWrong: P8.1: a body that can't have a record changes nothing, whether there is room or not.
func TestPutWrong(t *testing.T) {
	for _, room := range []int{14, 1 << 21} {
		f := file(t, room, record("a"), record("b"))
		j := opens(t, f, "a", "b")
		for _, n := range []int{0, 201, 202, 256, 257, 65535, 65536, 65537, 1 << 20} {
			puts(t, j, strings.Repeat("x", n), api.ErrArg)
			has(t, "not put", f, records("a", "b"), 7)
			long(t, "not put", j, 2)
		}
		if e := j.Put(nil); e != api.ErrArg {
			t.Errorf("nil: %d", e)
		}
		has(t, "not put", f, records("a", "b"), 7)
	}
}

// TestPutFull: P8.1: a record for which there is just room, and one of a byte more, which changes nothing.
func TestPutFull(t *testing.T) {
	for n := 1; n <= 200; n++ {
		for _, l := range [][]string{nil, {"a"}, {"one", "two"}} {
			s := records(l...)
			f := file(t, len(s)+n+6, s, "")
			j := opens(t, f, l...)
			if n < 200 {
				puts(t, j, rising(n+1), api.ErrFull)
			}
			has(t, "no room", f, s, len(s))
			long(t, "no room", j, len(l))
			puts(t, j, rising(n), api.OK)
			has(t, "just room", f, s+record(rising(n)), len(s))
			long(t, "just room", j, len(l)+1)
			puts(t, j, "z", api.ErrFull)
			puts(t, j, "", api.ErrArg)
			has(t, "full", f, s+record(rising(n)), len(s))
			long(t, "full", j, len(l)+1)
		}
	}
}

// TestPutNoRoom: P8.1: behind a body that had no room a shorter one may have some.
func TestPutNoRoom(t *testing.T) {
	for room := range 7 {
		j, f := made(t, room)
		puts(t, j, "a", api.ErrFull)
		has(t, "no room", f, "", 0)
		long(t, "no room", j, 0)
	}
	j, f := made(t, 22)
	puts(t, j, "abcde", api.OK)
	puts(t, j, "123456", api.ErrFull)
	puts(t, j, "x", api.OK)
	puts(t, j, "y", api.ErrFull)
	long(t, "full", j, 2)
	opens(t, f, "abcde", "x")
}

// TestPutMany: P8.1: as many as the greatest file has room for.
func TestPutMany(t *testing.T) {
	j, f := made(t, 1<<24)
	body := []byte(rising(200))
	n := 0
	for j.Put(body) == api.OK {
		n++
	}
	if n != 1<<24/206 || len(f.Bytes()) != 206*n || f.Safe() != 0 {
		t.Errorf("%d records", n)
	}
	long(t, "full", j, n)
	if k, l, e := journal.Open(f); e != api.OK || len(l) != n || k.Len() != n || f.Safe() != 0 {
		t.Errorf("Open: %d, %d", len(l), e)
	}
	j.Sync()
	has(t, "synced", f, strings.Repeat(record(rising(200)), n), 206*n)
}

// TestSync: P8.1: all is safe then; not ahead of it, and what is put behind it isn't.
func TestSync(t *testing.T) {
	j, f := made(t, 100)
	j.Sync()
	has(t, "nothing", f, "", 0)
	puts(t, j, "a", api.OK)
	puts(t, j, "b", api.OK)
	has(t, "put", f, records("a", "b"), 0)
	for range 2 {
		j.Sync()
		has(t, "synced", f, records("a", "b"), 14)
		long(t, "synced", j, 2)
	}
	puts(t, j, "c", api.OK)
	has(t, "put", f, records("a", "b", "c"), 14)
	puts(t, j, "", api.ErrArg)
	puts(t, j, rising(200), api.ErrFull)
	has(t, "not put", f, records("a", "b", "c"), 14)
	j.Sync()
	has(t, "synced", f, records("a", "b", "c"), 21)
}

// TestSyncOpened: P8.1: of a journal to which nothing was put, too.
func TestSyncOpened(t *testing.T) {
	for safe := range 15 {
		s := records("a", "b")
		f := file(t, 20, s[:safe], s[safe:])
		j := opens(t, f, "a", "b")
		j.Sync()
		has(t, "synced", f, s, 14)
		long(t, "synced", j, 2)
	}
}

// TestLen: P8.1: the records of a file that was opened count, and each that is put, without an error.
func TestLen(t *testing.T) {
	for _, l := range [][]string{nil, {"a"}, {"a", "b", "c"}, slices.Repeat([]string{sumless}, 30)} {
		s := records(l...)
		f := file(t, len(s)+21, s, "")
		j := opens(t, f, l...)
		for i, body := range []string{"x", "", "y", rising(201), rising(8), "z", "w", ""} {
			want := [...]api.Errno{api.OK, api.ErrArg, api.OK, api.ErrArg, api.ErrFull, api.OK, api.ErrFull, api.ErrArg}[i]
			puts(t, j, body, want)
			long(t, "put", j, len(l)+[...]int{1, 1, 2, 2, 2, 3, 3, 3}[i])
		}
	}
}

// TestLenFile: P8.1: how many there are, when the file was added to, cut, or crashed.
func TestLenFile(t *testing.T) {
	j, f := made(t, 100)
	for _, body := range []string{"a", "b", "c"} {
		puts(t, j, body, api.OK)
	}
	f.Cut(20)
	long(t, "cut in the last one", j, 2)
	f.Add(record("c")[6])
	long(t, "made whole again", j, 3)
	f.Crash(0)
	long(t, "crashed, without what wasn't safe", j, 2)
	f.Cut(14)
	f.Add([]byte(record("another"))...)
	long(t, "a record was added", j, 3)
	f.Add('!')
	puts(t, j, "d", api.OK)
	long(t, "put behind what is no record", j, 3)
	f.Cut(0)
	long(t, "cut to none", j, 0)
	puts(t, j, "e", api.OK)
	long(t, "put anew", j, 1)
}

// TestFilesCalls: P8.1, and layer 8's ways: a journal has its file's calls, and the file itself.
func TestFilesCalls(t *testing.T) {
	j, f := made(t, 30)
	if j.File != f {
		t.Error("another file")
	}
	puts(t, j, "a", api.OK)
	if e := j.Add([]byte(record("b") + "xyz")...); e != api.OK {
		t.Errorf("Add: %d", e)
	}
	has(t, "added", f, records("a", "b")+"xyz", 0)
	long(t, "added", j, 2)
	if b := j.Bytes(); string(b) != records("a", "b")+"xyz" || j.Safe() != 0 {
		t.Errorf("Bytes: %q, %d safe", b, j.Safe())
	}
	if e := j.Add(make([]byte, 14)...); e != api.ErrFull {
		t.Errorf("Add: %d; want %d", e, api.ErrFull)
	}
	if n := j.File.Sync(); n != 17 || j.Safe() != 17 {
		t.Errorf("Sync: %d, %d safe", n, j.Safe())
	}
	if e := j.Cut(18); e != api.ErrArg || j.Cut(-1) != api.ErrArg {
		t.Errorf("Cut: %d; want %d", e, api.ErrArg)
	}
	if e := j.Cut(14); e != api.OK {
		t.Errorf("Cut: %d", e)
	}
	puts(t, j, "c", api.OK)
	if n := j.Crash(3); n != 4 {
		t.Errorf("Crash: %d went; want 4", n)
	}
	has(t, "crashed", f, records("a", "b")+record("c")[:3], 17)
	opens(t, f, "a", "b")
	has(t, "opened", f, records("a", "b"), 14)
}

// TestTwoJournals: P8.1: what another journal wrote into the file is read; those of two files know nothing of each other.
func TestTwoJournals(t *testing.T) {
	j, f := made(t, 100)
	other, g := made(t, 100)
	puts(t, j, "a", api.OK)
	puts(t, other, "x", api.OK)
	puts(t, j, "b", api.OK)
	j.Sync()
	has(t, "one", f, records("a", "b"), 14)
	has(t, "another", g, record("x"), 0)
	k := opens(t, f, "a", "b")
	puts(t, k, "c", api.OK)
	opens(t, f, "a", "b", "c")
	opens(t, g, "x")
	long(t, "the first one of the same file", j, 3)
	puts(t, j, "d", api.OK)
	k.Sync()
	has(t, "both", f, records("a", "b", "c", "d"), 28)
	long(t, "both", k, 4)
}

// TestNil: P8.1 and P1: a nil journal.
func TestNil(t *testing.T) {
	var j *journal.Journal
	for range 2 {
		for _, body := range [][]byte{nil, {}, []byte("a"), make([]byte, 200), make([]byte, 201)} {
			if e := j.Put(body); e != api.ErrArg {
				t.Errorf("Put of %d bytes: %d; want %d", len(body), e, api.ErrArg)
			}
		}
		j.Sync()
		long(t, "nil", j, 0)
	}
}

// TestPutKeepsNothing: what is handed to Put is neither kept nor written into, nor what lies behind it, with an error neither.
func TestPutKeepsNothing(t *testing.T) {
	for _, body := range bodies() {
		j, f := made(t, 300)
		room := []byte(body + "------------")
		puts(t, j, "ahead", api.OK)
		if e := j.Put(room[:len(body)]); e != api.OK {
			t.Errorf("Put: %d", e)
		}
		j.Put(room[:0])
		puts(t, j, "behind", api.OK)
		if string(room) != body+"------------" {
			t.Errorf("written into: %q", room)
		}
		spoil(room)
		has(t, "kept", f, records("ahead", body, "behind"), 0)
		full, _ := made(t, 6)
		room = []byte(body + "------------")
		if e := full.Put(room[:len(body)]); e != api.ErrFull || string(room) != body+"------------" {
			t.Errorf("no room: %d, %q", e, room)
		}
	}
}

// TestOpenIsNew: the bodies that are told share no memory with each other, nor with the file.
func TestOpenIsNew(t *testing.T) {
	want := bodies()
	s := records(want...)
	for i := range want {
		f := file(t, 3000, s, "")
		_, l, _ := journal.Open(f)
		_, m, _ := journal.Open(f)
		spoil(l[i])
		_ = append(l[i], "!!!!!!!!!!"...)
		for k := range l {
			if k != i && string(l[k]) != want[k] {
				t.Errorf("body %d: body %d is spoilt: %q", i, k, l[k])
			}
		}
		has(t, "spoilt", f, s, len(s))
		if !slices.Equal(texts(m), want) {
			t.Errorf("body %d: another answer: %q", i, m)
		}
	}
}

// TestOpenStays: the bodies that are told stay, whatever is done with the journal and its file.
func TestOpenStays(t *testing.T) {
	f := file(t, 100, records("a", "bc", "def"), "no")
	j, l, _ := journal.Open(f)
	f.Cut(1)
	puts(t, j, "xyz", api.OK)
	f.Cut(0)
	puts(t, j, "another", api.OK)
	puts(t, j, "one more", api.OK)
	if !slices.Equal(texts(l), []string{"a", "bc", "def"}) {
		t.Errorf("%q", l)
	}
}
