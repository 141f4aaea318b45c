package disk_test

import (
	"math"
	"strings"
	"testing"

	"rutter/api"
	"rutter/disk"
)

// crashes crashes a file, and checks that of its loose bytes so many stay, and how many went.
func crashes(t *testing.T, f *disk.File, keep, stay int) {
	t.Helper()
	was, safe := string(f.Bytes()), f.Safe()
	loose := len(was) - safe
	if n := f.Crash(keep); n != loose-stay {
		t.Errorf("%.40q, %d safe: Crash(%d): %d; want %d", was, safe, keep, n, loose-stay)
	}
	has(t, "crashed", f, was[:safe+stay], safe+stay)
}

// several are files of whose bytes nothing, something, and all is safe.
func several() [][2]string {
	return [][2]string{
		{"", ""}, {"", "x"}, {"", "xy"}, {"", "tuvwxyz"}, {"a", ""}, {"ab", ""}, {"abcdefg", ""},
		{"a", "x"}, {"a", "xy"}, {"abc", "x"}, {"abc", "wxyz"}, {"abcdef", "vwxyz"},
	}
}

// TestCrash: P7.1: of the bytes that aren't safe the first ones stay, and are safe then.
func TestCrash(t *testing.T) {
	for _, c := range several() {
		loose := len(c[1])
		for keep := range loose + 1 {
			crashes(t, file(t, 16, c[0], c[1]), keep, keep)
		}
		for _, keep := range []int{-1, -2, -loose, -loose - 1, -len(c[0]), -1 << 32, math.MinInt64, math.MinInt64 + 1, math.MinInt64 + len(c[0])} {
			crashes(t, file(t, 16, c[0], c[1]), keep, 0)
		}
		for _, keep := range []int{loose + 1, loose + 2, 16, 17, 1 << 24, 1 << 32, 1<<32 + 1, math.MaxInt64 - len(c[0]), math.MaxInt64 - 1, math.MaxInt64} {
			crashes(t, file(t, 16, c[0], c[1]), keep, loose)
		}
	}
}

// TestCrashAgain: P7.1: what stayed is safe, so that nothing goes at another crash; the file has room again for what went.
func TestCrashAgain(t *testing.T) {
	for _, c := range several() {
		for keep := -1; keep <= len(c[1])+1; keep++ {
			f := file(t, 12, c[0], c[1])
			f.Crash(keep)
			n := f.Safe()
			for _, keep := range []int{0, keep, -1, 1, math.MinInt64, math.MaxInt64} {
				crashes(t, f, keep, 0)
			}
			fits(t, "crashed", f, 12-n)
			crashes(t, f, 0, 0)
			has(t, "crashed again", f, (c[0] + c[1])[:n], n)
		}
	}
}

// TestCrashAway: P7.1: what went doesn't come back, neither by a cut, a crash, nor by what is added.
func TestCrashAway(t *testing.T) {
	f := file(t, 8, "ab", "wxyz")
	crashes(t, f, 1, 1)
	if e := f.Cut(4); e != api.ErrArg {
		t.Errorf("Cut(4): %d; want %d", e, api.ErrArg)
	}
	crashes(t, f, 3, 0)
	f.Add('1', '2')
	has(t, "and more", f, "abw12", 3)
	crashes(t, f, 1, 1)
	has(t, "and less", f, "abw1", 4)
}

// TestCrashGreatest: P7.1: of the greatest file, with a byte that is safe ahead.
func TestCrashGreatest(t *testing.T) {
	for keep, stay := range map[int]int{math.MinInt64: 0, -1: 0, 0: 0, 1: 1, 1<<24 - 2: 1<<24 - 2, 1<<24 - 1: 1<<24 - 1, 1 << 24: 1<<24 - 1, math.MaxInt64: 1<<24 - 1} {
		crashes(t, file(t, 1<<24, "a", strings.Repeat("x", 1<<24-1)), keep, stay)
	}
}

// TestSafeStays: P7.2: behind a crash, whatever it keeps, a file's bytes are a beginning of what they were, which has all that was safe.
func TestSafeStays(t *testing.T) {
	for _, c := range several() {
		for _, keep := range []int{math.MinInt64, -100, -8, -3, -1, 0, 1, 2, 3, 4, 5, 6, 7, 8, 100, math.MaxInt64} {
			f := file(t, 16, c[0], c[1])
			n := f.Crash(keep)
			b := string(f.Bytes())
			if !strings.HasPrefix(c[0]+c[1], b) || !strings.HasPrefix(b, c[0]) {
				t.Errorf("%q: Crash(%d): %q", c, keep, b)
			}
			if n != len(c[0]+c[1])-len(b) || f.Safe() != len(b) {
				t.Errorf("%q: Crash(%d): %d went, %q, %d safe", c, keep, n, b, f.Safe())
			}
		}
	}
}

// TestNothingSynced: P7.2: without a sync, nothing need stay; with one, all stays, crash behind crash.
func TestNothingSynced(t *testing.T) {
	f := made(t, 100)
	for _, s := range []string{"a", "bc", "", "def"} {
		adds(t, f, s, api.OK)
	}
	crashes(t, f, 0, 0)
	want := ""
	for _, s := range []string{"a", "bc", "", "def"} {
		adds(t, f, s, api.OK)
		f.Sync()
		want += s
		adds(t, f, "torn", api.OK)
		crashes(t, f, 0, 0)
		has(t, "synced", f, want, len(want))
	}
}
