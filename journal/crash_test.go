package journal_test

import (
	"slices"
	"strings"
	"testing"

	"rutter/api"
	"rutter/disk"
	"rutter/journal"
)

// filled is a file, and its journal, to which bodies were put, of which the first ones are synced.
func filled(t *testing.T, l []string, synced int) (*journal.Journal, *disk.File) {
	t.Helper()
	j, f := made(t, 2000)
	for i, body := range l {
		if i == synced {
			j.Sync()
		}
		puts(t, j, body, api.OK)
	}
	if synced == len(l) {
		j.Sync()
	}
	has(t, "filled", f, records(l...), len(records(l[:synced]...)))
	return j, f
}

// beginning checks that a file's records are a beginning of those of bodies, which has all that were synced, and tells it.
func beginning(t *testing.T, f *disk.File, l []string, synced int) []string {
	t.Helper()
	b, _ := journal.Scan(f.Bytes())
	is := texts(b)
	if len(is) < synced || len(is) > len(l) || !slices.Equal(is, l[:len(is)]) {
		t.Fatalf("%q, of which %d are synced; now: %q", l, synced, is)
	}
	return is
}

// lists are bodies to put.
func lists() [][]string {
	return [][]string{{}, {"a"}, {sumless}, {"a", "b", "c"}, {sumless, "one", sumless, "two"}, {rising(200), "\x00", strings.Repeat("\x00", 50), "last"}}
}

// TestBeginning: P8.2: behind a crash, whatever it keeps: no byte, each number of bytes, all; those whose bytes are whole are there.
func TestBeginning(t *testing.T) {
	for _, l := range lists() {
		for synced := range len(l) + 1 {
			safe := len(records(l[:synced]...))
			loose := len(records(l...)) - safe
			for keep := -1; keep <= loose+1; keep++ {
				j, f := filled(t, l, synced)
				f.Crash(keep)
				is := beginning(t, f, l, synced)
				stay := safe + min(max(keep, 0), loose)
				if !slices.Equal(is, whole(l, stay)) {
					t.Errorf("%q, %d synced, %d kept: %q; want %q", l, synced, keep, is, whole(l, stay))
				}
				long(t, "crashed", j, len(is))
				opens(t, f, is...)
				s := records(is...)
				has(t, "opened", f, s, len(s))
			}
		}
	}
}

// TestOnBehindCrash: P8.2: what is put into a journal that is opened behind a crash stands behind the records that are left, also when it crashes again.
func TestOnBehindCrash(t *testing.T) {
	for _, l := range lists() {
		for synced := range len(l) + 1 {
			for keep := range len(records(l[synced:]...)) + 1 {
				_, f := filled(t, l, synced)
				f.Crash(keep)
				is := beginning(t, f, l, synced)
				j := opens(t, f, is...)
				puts(t, j, "more", api.OK)
				j.Sync()
				puts(t, j, "torn", api.OK)
				f.Crash(keep % 10)
				opens(t, f, slices.Concat(is, []string{"more"})...)
			}
		}
	}
}

// TestNothingSynced: P8.2: without a sync nothing need stay, behind a Put that had an error neither.
func TestNothingSynced(t *testing.T) {
	j, f := filled(t, []string{"a", "b"}, 0)
	puts(t, j, "", api.ErrArg)
	f.Crash(0)
	has(t, "crashed", f, "", 0)
	long(t, "crashed", j, 0)
	opens(t, f)
}

// TestTornRecord: P8.2: a record of which a byte is missing doesn't count, one whose sum is 0 neither.
func TestTornRecord(t *testing.T) {
	for _, body := range bodies() {
		for missing := 1; missing <= len(record(body)); missing++ {
			_, f := filled(t, []string{"safe", body}, 1)
			f.Crash(len(record(body)) - missing)
			opens(t, f, "safe")
			has(t, "opened", f, record("safe"), 10)
		}
	}
}

// TestAnyCrashes: P8.2: many puts, syncs and crashes, with openings between.
func TestAnyCrashes(t *testing.T) {
	c := chance(6)
	for range 300 {
		j, f := made(t, 1<<16)
		var l []string
		synced := 0
		for range 40 {
			switch c.below(6) {
			case 0:
				j.Sync()
				synced = len(l)
			case 1:
				f.Crash(c.below(400))
				l = beginning(t, f, l, synced)
				j, synced = opens(t, f, l...), len(l)
			default:
				body := string(c.bytes(1 + c.below(200)))
				puts(t, j, body, api.OK)
				l = append(l, body)
			}
		}
		f.Crash(0)
		beginning(t, f, l[:synced], synced)
	}
}
