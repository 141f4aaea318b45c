package disk_test

import (
	"math"
	"strings"
	"testing"

	"rutter/api"
	"rutter/disk"
)

// made is a new file with so much room.
func made(t *testing.T, room int) *disk.File {
	t.Helper()
	f, e := disk.New(room)
	if f == nil || e != api.OK {
		t.Fatalf("New(%d): %v, %d", room, f, e)
	}
	return f
}

// file is one with so much room, and these bytes: those that are safe, and those behind them.
func file(t *testing.T, room int, safe, loose string) *disk.File {
	t.Helper()
	f := made(t, room)
	adds(t, f, safe, api.OK)
	if n := f.Sync(); n != len(safe) {
		t.Fatalf("Sync: %d; want %d", n, len(safe))
	}
	adds(t, f, loose, api.OK)
	has(t, "at first", f, safe+loose, len(safe))
	return f
}

// adds adds bytes, and checks what is told.
func adds(t *testing.T, f *disk.File, s string, want api.Errno) {
	t.Helper()
	if e := f.Add([]byte(s)...); e != want {
		t.Fatalf("Add of %d bytes: %d; want %d", len(s), e, want)
	}
}

// has checks which bytes a file has, and how many are safe, twice, since asking changes nothing.
func has(t *testing.T, what string, f *disk.File, want string, safe int) {
	t.Helper()
	for range 2 {
		if b, n := f.Bytes(), f.Safe(); string(b) != want || n != safe {
			t.Errorf("%s: %.40q, %d bytes, %d safe; want %.40q, %d, %d", what, b, len(b), n, want, len(want), safe)
		}
	}
}

// fits checks that a file has room for n bytes more, and for no more than these. It has them then.
func fits(t *testing.T, what string, f *disk.File, n int) {
	t.Helper()
	was, safe := string(f.Bytes()), f.Safe()
	more := strings.Repeat("#", n)
	if e := f.Add([]byte(more + "#")...); e != api.ErrFull {
		t.Errorf("%s: %d bytes more: %d; want %d", what, n+1, e, api.ErrFull)
	}
	has(t, what+", without room", f, was, safe)
	if e := f.Add([]byte(more)...); e != api.OK {
		t.Errorf("%s: %d bytes more: %d", what, n, e)
	}
	has(t, what+", full", f, was+more, safe)
	if e := f.Add('#'); e != api.ErrFull {
		t.Errorf("%s: a byte more behind all: %d; want %d", what, e, api.ErrFull)
	}
	has(t, what+", full for good", f, was+more, safe)
}

// TestNew: P7.1: an empty file, with just so much room.
func TestNew(t *testing.T) {
	for _, n := range []int{0, 1, 2, 3, 255, 256, 65535, 65536, 1<<20 + 1, 1<<24 - 1, 1 << 24} {
		f := made(t, n)
		has(t, "new", f, "", 0)
		fits(t, "new", f, n)
	}
}

// TestNewWrong: P7.1: rooms that can't be; there is no file beside an error.
func TestNewWrong(t *testing.T) {
	for _, n := range []int{-1, -2, -1 << 24, -1 << 32, math.MinInt64, math.MinInt64 + 5, 1<<24 + 1, 1<<24 + 2, 1 << 25, 1<<32 + 5, 1 << 62, math.MaxInt64} {
		if f, e := disk.New(n); f != nil || e != api.ErrArg {
			t.Errorf("New(%d): %v, %d; want none, %d", n, f, e, api.ErrArg)
		}
	}
}

// TestTwoFiles: P7.1: what one has, another one hasn't.
func TestTwoFiles(t *testing.T) {
	a, b := made(t, 4), made(t, 4)
	a.Add('a', 'b')
	b.Add('x')
	a.Sync()
	has(t, "one", a, "ab", 2)
	has(t, "another", b, "x", 0)
	b.Crash(0)
	b.Add('y', 'z')
	has(t, "one", a, "ab", 2)
	has(t, "another", b, "yz", 0)
}

// TestAdd: P7.1: bytes stand behind all others, whatever they are, and aren't safe.
func TestAdd(t *testing.T) {
	f := made(t, 300)
	if e := f.Add(); e != api.OK {
		t.Errorf("none: %d", e)
	}
	has(t, "none", f, "", 0)
	f.Add('a')
	has(t, "one", f, "a", 0)
	f.Add('b', 'c')
	has(t, "several at once", f, "abc", 0)
	f.Add('d')
	f.Add()
	f.Add(nil...)
	f.Add('e')
	has(t, "one after the other", f, "abcde", 0)
	f.Sync()
	f.Add('f', 'g')
	f.Add('h')
	has(t, "behind safe ones", f, "abcdefgh", 5)
	each := make([]byte, 256)
	for i := range each {
		each[i] = byte(i)
	}
	f.Add(each...)
	has(t, "each byte", f, "abcdefgh"+string(each), 5)
}

// TestAddFull: P7.1: just as many as there is room for, and one more, which changes nothing.
func TestAddFull(t *testing.T) {
	for _, c := range []struct {
		room        int
		safe, loose string
	}{
		{0, "", ""}, {1, "", ""}, {1, "a", ""}, {1, "", "x"}, {5, "", ""}, {5, "ab", ""}, {5, "", "xy"}, {5, "ab", "xy"},
		{5, "abcd", ""}, {5, "a", "xyz"}, {5, "abcde", ""}, {5, "", "vwxyz"}, {5, "abc", "xy"}, {64, "abc", "xy"},
	} {
		fits(t, c.safe+"|"+c.loose, file(t, c.room, c.safe, c.loose), c.room-len(c.safe+c.loose))
	}
}

// TestAddNoRoom: P7.1: behind an Add that had no room there is as much as ahead of it; none of many goes in.
func TestAddNoRoom(t *testing.T) {
	f := file(t, 6, "ab", "x")
	for _, s := range []string{"1234", "12345", strings.Repeat("1", 65536), strings.Repeat("1", 1<<24+1)} {
		adds(t, f, s, api.ErrFull)
		has(t, "no room", f, "abx", 2)
	}
	adds(t, f, "yz", api.OK)
	has(t, "room for fewer", f, "abxyz", 2)
	adds(t, f, "12", api.ErrFull)
	adds(t, f, "", api.OK)
	adds(t, f, "w", api.OK)
	has(t, "full", f, "abxyzw", 2)
	adds(t, f, "1", api.ErrFull)
	adds(t, f, "", api.OK)
	has(t, "none more", f, "abxyzw", 2)
}

// TestSync: P7.1: all are safe, and how many they are is told.
func TestSync(t *testing.T) {
	for _, c := range [][2]string{{"", ""}, {"", "x"}, {"a", ""}, {"a", "x"}, {"", "vwxyz"}, {"abc", ""}, {"abc", "xyz"}} {
		f := file(t, 8, c[0], c[1])
		all := c[0] + c[1]
		for range 2 {
			if n := f.Sync(); n != len(all) {
				t.Errorf("%q: Sync: %d; want %d", c, n, len(all))
			}
			has(t, "synced", f, all, len(all))
		}
		fits(t, "synced", f, 8-len(all))
	}
}

// TestSyncFull: P7.1: all of the greatest file are safe.
func TestSyncFull(t *testing.T) {
	f := file(t, 1<<24, "", strings.Repeat("x", 1<<24))
	if n := f.Sync(); n != 1<<24 || f.Safe() != 1<<24 {
		t.Errorf("Sync: %d, %d safe; want %d", n, f.Safe(), 1<<24)
	}
}

// TestCut: P7.1: only the first ones stay, and are safe, whether they were or not.
func TestCut(t *testing.T) {
	for _, c := range [][2]string{{"", ""}, {"", "x"}, {"a", ""}, {"a", "x"}, {"", "vwxyz"}, {"abcde", ""}, {"abc", "xyz"}, {"a", "vwxyz"}} {
		all := c[0] + c[1]
		for n := range len(all) + 1 {
			f := file(t, 9, c[0], c[1])
			for range 2 {
				if e := f.Cut(n); e != api.OK {
					t.Errorf("%q: Cut(%d): %d", c, n, e)
				}
				has(t, "cut", f, all[:n], n)
			}
			if n := f.Crash(0); n != 0 {
				t.Errorf("%q: %d bytes went behind a cut", c, n)
			}
			fits(t, "cut", f, 9-n)
		}
	}
}

// TestCutWrong: P7.1: below none, and more than there are; nothing changes.
func TestCutWrong(t *testing.T) {
	for _, c := range [][2]string{{"", ""}, {"", "x"}, {"a", ""}, {"abc", ""}, {"", "xyz"}, {"abc", "xy"}, {"abcd", "wxyz"}} {
		f := file(t, 8, c[0], c[1])
		n := len(c[0] + c[1])
		for _, n := range []int{-1, -2, -n - 1, -1 << 32, math.MinInt64, n + 1, n + 2, 9, 1 << 24, 1 << 32, 1<<32 + n, math.MaxInt64} {
			if e := f.Cut(n); e != api.ErrArg {
				t.Errorf("%q: Cut(%d): %d; want %d", c, n, e, api.ErrArg)
			}
			has(t, "not cut", f, c[0]+c[1], len(c[0]))
		}
		fits(t, "not cut", f, 8-n)
	}
}

// TestCutAway: P7.1: what was cut off doesn't come back, neither by a greater cut nor by what is added.
func TestCutAway(t *testing.T) {
	f := file(t, 8, "abc", "xyz")
	f.Cut(2)
	if e := f.Cut(3); e != api.ErrArg {
		t.Errorf("Cut(3): %d; want %d", e, api.ErrArg)
	}
	has(t, "cut", f, "ab", 2)
	f.Add('1')
	has(t, "and more", f, "ab1", 2)
	f.Cut(0)
	has(t, "cut to none", f, "", 0)
	f.Add('2', '3')
	has(t, "and more", f, "23", 0)
}

// TestNil: P7.1: a nil file.
func TestNil(t *testing.T) {
	var f *disk.File
	for range 2 {
		if e := f.Add(); e != api.ErrArg {
			t.Errorf("Add of none: %d", e)
		}
		if e := f.Add('a', 'b'); e != api.ErrArg {
			t.Errorf("Add: %d", e)
		}
		if n := f.Sync(); n != 0 {
			t.Errorf("Sync: %d", n)
		}
		if b, n := f.Bytes(), f.Safe(); len(b) != 0 || n != 0 {
			t.Errorf("%q, %d safe", b, n)
		}
		for _, n := range []int{math.MinInt64, -1, 0, 1, 1 << 24, math.MaxInt64} {
			if e := f.Cut(n); e != api.ErrArg {
				t.Errorf("Cut(%d): %d", n, e)
			}
			if m := f.Crash(n); m != 0 {
				t.Errorf("Crash(%d): %d", n, m)
			}
		}
	}
}
