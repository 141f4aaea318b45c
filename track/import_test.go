package track_test

import (
	"math"
	"testing"

	"rutter/api"
)

// TestImport: P12.1: records are imported as they are, in order; how many there were is told.
func TestImport(t *testing.T) {
	for _, n := range []int{0, 1, 2, 15, 16} {
		s := made(t, 10)
		imports(t, s, n, 20, many(n)...)
		has(t, s, plain{records: many(n)})
	}
	for _, f := range rightFlows() {
		s := made(t, 10)
		imports(t, s, 1, 20, until(1<<32, f))
		has(t, s, plain{records: []api.Record{until(1<<32, f)}})
	}
}

// TestImportTimes: P12.1: a record is imported that lives at the time, and is until 2^40 at most; the table's own life is nothing to it.
func TestImportTimes(t *testing.T) {
	for _, x := range []struct{ life, now, until int }{
		{1, 0, 1}, {1, 0, 2}, {1, 0, 1 << 40}, {1 << 31, 0, 1}, {10, 20, 21}, {10, 20, 30}, {10, 20, 31}, {10, 20, 1 << 32},
		{10, 20, 1<<40 - 1}, {10, 20, 1 << 40}, {10, 1<<40 - 2, 1<<40 - 1}, {10, 1<<40 - 1, 1 << 40},
	} {
		s := made(t, x.life)
		imports(t, s, 1, x.now, until(x.until, flow()))
		has(t, s, plain{records: []api.Record{until(x.until, flow())}})
	}
	for _, x := range []struct{ now, until int }{
		{0, 0}, {0, -1}, {0, math.MinInt}, {20, 20}, {20, 19}, {20, 1}, {20, 0}, {20, -1}, {20, -20}, {20, -1 << 40}, {20, math.MinInt},
		{0, 1<<40 + 1}, {20, 1<<40 + 1}, {20, 1<<40 + 2}, {20, 1 << 41}, {20, math.MaxInt},
		{1<<40 - 1, 1<<40 - 1}, {1<<40 - 1, 1<<40 + 1}, {1 << 40, 1<<40 - 1}, {1 << 40, 1 << 40}, {1 << 40, 1<<40 + 1},
	} {
		s := made(t, 10)
		imports(t, s, 0, x.now, until(x.until, flow()))
		has(t, s, plain{})
	}
}

// TestImportAtWrongTimes: P12.1: 0, and nothing, if the time may not be: what doesn't live stays, too.
func TestImportAtWrongTimes(t *testing.T) {
	for _, n := range []int{0, 1, 15, 16} {
		s := holding(t, many(n)...)
		for _, now := range wrongTimes() {
			imports(t, s, 0, now)
			imports(t, s, 0, now, until(1<<40, flow()))
			imports(t, s, 0, now, until(now+1, nth(0)), until(1000, back(nth(14))))
			imports(t, s, 0, now, many(17)...)
			has(t, s, plain{records: many(n)})
		}
	}
}

// TestImportOfWrong: P12.1: a record that doesn't live, or whose flow may not be, or that is until too late is none, wherever it stands; the others are imported.
func TestImportOfWrong(t *testing.T) {
	wrong := []api.Record{{}, until(20, flow()), until(1<<40+1, flow()), until(math.MinInt, nth(1)), until(math.MaxInt, back(nth(1)))}
	for _, f := range wrongFlows() {
		wrong = append(wrong, until(50, f), until(1<<40, back(f)))
	}
	for _, w := range wrong {
		s := holding(t, until(60, nth(1)))
		imports(t, s, 0, 20, w)
		has(t, s, plain{records: []api.Record{until(60, nth(1))}})
		imports(t, s, 3, 20, w, until(70, nth(2)), w, until(71, nth(3)), until(72, nth(1)), w)
		has(t, s, plain{records: []api.Record{until(72, nth(1)), until(70, nth(2)), until(71, nth(3))}})
	}
	s := made(t, 10)
	imports(t, s, 0, 20, wrong...)
	has(t, s, plain{})
	imports(t, s, 1, 20, append(wrong, until(21, flow()))...)
	has(t, s, plain{records: []api.Record{until(21, flow())}})
}

// TestImportOfAlike: P12.1: one of a flow alike that is there is until the later one of both; its record stays as it is, and where it is; it is told as one.
func TestImportOfAlike(t *testing.T) {
	for _, f := range []api.Flow{flow(), back(flow())} {
		for _, n := range []int{21, 49, 50, 51, 1 << 32, 1 << 40} {
			s := holding(t, until(60, nth(1)), until(50, flow()), until(60, nth(2)))
			imports(t, s, 1, 20, until(n, f))
			has(t, s, plain{records: []api.Record{until(60, nth(1)), until(max(50, n), flow()), until(60, nth(2))}})
		}
	}
}

// TestImportOfAlikeInOneCall: P12.1: two of flows alike in one call are one record, as the first one is, until the later one of both; both are told.
func TestImportOfAlikeInOneCall(t *testing.T) {
	for _, f := range []api.Flow{flow(), back(flow())} {
		for _, x := range [][2]int{{30, 31}, {31, 30}, {30, 30}, {1 << 40, 21}, {21, 1 << 40}} {
			s := made(t, 10)
			imports(t, s, 3, 20, until(x[0], f), until(40, nth(1)), until(x[1], flow()))
			has(t, s, plain{records: []api.Record{until(max(x[0], x[1]), f), until(40, nth(1))}})
		}
	}
	s := made(t, 10)
	imports(t, s, 1, 20, until(20, back(flow())), until(30, flow()), until(1<<40+1, back(flow())))
	has(t, s, plain{records: []api.Record{until(30, flow())}})
	f := api.Flow{Proto: 6, Src: 9, Dst: 9, SrcPort: 53, DstPort: 53}
	imports(t, s, 20, 20, repeat(20, until(30, f))...)
	has(t, s, plain{records: []api.Record{until(30, flow()), until(30, f)}})
}

// repeat is a record, so many times.
func repeat(n int, r api.Record) []api.Record {
	l := make([]api.Record, n)
	for i := range l {
		l[i] = r
	}
	return l
}

// TestImportOfOver: P12.1: one alike that lives no more goes ahead of the import, which comes behind all others, as it is.
func TestImportOfOver(t *testing.T) {
	for _, f := range []api.Flow{flow(), back(flow())} {
		for _, now := range []int{50, 51, 58} {
			s := holding(t, until(60, nth(1)), until(50, flow()), until(60, nth(2)))
			imports(t, s, 1, now, until(59, f))
			has(t, s, plain{records: []api.Record{until(60, nth(1)), until(60, nth(2)), until(59, f)}})
		}
	}
}

// TestImportOfNear: P12.1: a record of a flow that differs in one field alone, or of which one thing alone is changed over, is another one.
func TestImportOfNear(t *testing.T) {
	for _, f := range near() {
		s := holding(t, until(50, flow()))
		imports(t, s, 1, 20, until(30, f))
		has(t, s, plain{records: []api.Record{until(50, flow()), until(30, f)}})
	}
}

// TestImportLetsGo: P12.1: what doesn't live goes, with whatever is imported, and with nothing: what is until the very time, or less; what is until one more stays.
func TestImportLetsGo(t *testing.T) {
	l := []api.Record{until(21, nth(0)), until(20, nth(1)), until(19, nth(2)), until(22, nth(3)), until(1, nth(4)), until(1<<40, nth(5))}
	for _, more := range [][]api.Record{{}, {until(19, flow())}, {until(25, flow())}, {until(20, nth(5)), until(25, nth(1))}, {until(25, api.Flow{})}} {
		for _, now := range []int{0, 1, 2, 18, 19, 20, 21, 22, 23, 1<<40 - 1, 1 << 40} {
			s, p := holding(t, l...), plain{10, l}
			imports(t, s, p.imports(now, more...), now, more...)
			has(t, s, p)
		}
	}
	s := holding(t, l...)
	imports(t, s, 0, 20)
	has(t, s, plain{records: []api.Record{l[0], l[3], l[5]}})
	imports(t, s, 0, 1<<40)
	has(t, s, plain{})
}

// TestImportFull: P12.1: 16 records at most; those that there is no room for are not told, and are not imported.
func TestImportFull(t *testing.T) {
	for _, n := range []int{17, 18, 32, 100} {
		s := made(t, 10)
		imports(t, s, 16, 20, many(n)...)
		has(t, s, plain{records: many(16)})
		imports(t, s, 0, 20, many(n)[16:]...)
		has(t, s, plain{records: many(16)})
	}
	for n := range 17 {
		s := holding(t, many(n)...)
		imports(t, s, 16-n, 20, many(40)[n:]...)
		has(t, s, plain{records: many(16)})
	}
}

// TestImportIntoFull: P12.1: ones alike need no room, ahead of one that there is no room for and behind it; what lives no more makes room.
func TestImportIntoFull(t *testing.T) {
	s, want := holding(t, many(16)...), many(16)
	imports(t, s, 4, 20, until(500, nth(15)), until(500, flow()), until(30, back(nth(0))), until(600, nth(20)), until(501, back(nth(7))), until(500, nth(15)))
	want[15].Until, want[7].Until = 500, 501
	has(t, s, plain{records: want})
	imports(t, s, 32, 20, append(many(16), many(16)...)...)
	has(t, s, plain{records: want})

	s = holding(t, many(16)...)
	imports(t, s, 2, 101, until(500, flow()), until(501, nth(20)), until(502, nth(21)))
	has(t, s, plain{records: append(many(16)[2:], until(500, flow()), until(501, nth(20)))})

	// One of 15 and another one: the first has the room, and its like needs none.
	s = holding(t, many(15)...)
	imports(t, s, 2, 20, until(500, flow()), until(501, nth(20)), until(502, back(flow())))
	has(t, s, plain{records: append(many(15), until(502, flow()))})
}

// TestImportThenNote: P12.1: an imported record is noted as any other.
func TestImportThenNote(t *testing.T) {
	s := made(t, 10)
	imports(t, s, 2, 20, until(25, flow()), until(1<<40, nth(1)))
	notes(t, s, back(flow()), 20, api.OK)
	notes(t, s, nth(1), 20, api.OK)
	notes(t, s, nth(2), 22, api.OK)
	has(t, s, plain{records: []api.Record{until(30, flow()), until(1<<40, nth(1)), until(32, nth(2))}})
}
