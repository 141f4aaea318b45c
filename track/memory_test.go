package track_test

import (
	"slices"
	"testing"

	"rutter/api"
)

// spoil writes into all that a list's memory has.
func spoil[T any](l []T, with T) {
	l = l[:cap(l)]
	for i := range l {
		l[i] = with
	}
}

// TestRecordsAreNew: rule 4: who writes into what Records told turns nothing of the table, nor of another answer.
func TestRecordsAreNew(t *testing.T) {
	for _, n := range []int{0, 1, 7, 15, 16} {
		s := holding(t, many(n)...)
		for _, now := range []int{-1, 0, 99, 100, 107} {
			a, b := s.Records(now), s.Records(now)
			want := slices.Clone(b)
			spoil(a, until(1000, flow()))
			_ = append(a, until(1000, flow()))
			if !slices.Equal(b, want) {
				t.Errorf("of %d at %d: another answer: %+v", n, now, b)
			}
			has(t, s, plain{records: many(n)})
		}
		if n < 16 {
			notes(t, s, flow(), 50, api.OK)
			has(t, s, plain{records: append(many(n), until(60, flow()))})
		}
	}
}

// TestRecordsStay: rule 4: what Records told stays, whatever is done with the table.
func TestRecordsStay(t *testing.T) {
	s := holding(t, many(10)...)
	l := s.Records(0)
	_ = append(l[:3], l[3:]...)
	notes(t, s, nth(3), 105, api.OK)
	notes(t, s, flow(), 106, api.OK)
	imports(t, s, 2, 107, until(500, nth(8)), until(600, nth(0)))
	imports(t, s, 0, 1000)
	if !slices.Equal(l, many(10)) {
		t.Errorf("%+v", l)
	}
}

// TestImportKeepsNothing: rule 4: what is handed to Import is neither written into nor kept, nor what lies behind it.
func TestImportKeepsNothing(t *testing.T) {
	for _, ahead := range []int{0, 1, 10, 16} {
		s, p := holding(t, many(ahead)...), plain{10, many(ahead)}
		room := append(many(20), until(20, flow()), until(40, back(nth(1))), until(2000, nth(0)), until(50, flow()), until(60, flow()), until(70, nth(30)))
		was := slices.Clone(room)
		imports(t, s, p.imports(20, room[:24]...), 20, room[:24]...)
		if !slices.Equal(room, was) {
			t.Errorf("written into: %+v; was %+v", room, was)
		}
		has(t, s, p)
		spoil(room, until(3000, nth(31)))
		has(t, s, p)
		notes(t, s, nth(1), 102, p.note(nth(1), 102))
		imports(t, s, p.imports(103, until(4000, nth(2))), 103, until(4000, nth(2)))
		has(t, s, p)
		if !slices.Equal(room, repeat(len(room), until(3000, nth(31)))) {
			t.Errorf("written into: %+v", room)
		}
	}
}

// TestImportOfItsOwn: rule 4: a table that imports what it told itself is as it was.
func TestImportOfItsOwn(t *testing.T) {
	s := holding(t, many(16)...)
	imports(t, s, 16, 20, s.Records(20)...)
	has(t, s, plain{records: many(16)})
	imports(t, s, 11, 104, s.Records(0)...)
	has(t, s, plain{records: many(16)[5:]})
}

// TestImportByLength: rule 4: what lies behind a list's length is not read.
func TestImportByLength(t *testing.T) {
	s := made(t, 10)
	imports(t, s, 0, 20, many(5)[:0]...)
	has(t, s, plain{})
	imports(t, s, 3, 20, many(5)[:3]...)
	has(t, s, plain{records: many(3)})
}
