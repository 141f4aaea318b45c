package phase_test

import (
	"math"
	"testing"

	"rutter/api"
	"rutter/phase"
)

// chance tells numbers that look like chance, the same in each run.
type chance uint64

func (c *chance) below(n int) int {
	*c = *c*6364136223846793005 + 1442695040888963407
	return int(uint64(*c) >> 33 % uint64(n))
}

// life is a port's, along its acts.
type life struct {
	row    api.Row
	owners map[int]int // of each generation
}

// begun is the life of a row that was just told.
func begun(r api.Row) *life {
	l := &life{row: r, owners: map[int]int{}}
	if r.Owner != api.Nobody {
		l.owners[r.Gen] = r.Owner
	}
	return l
}

// goesOn checks what an act makes of a life's row, by what is told anew, and by what P9.2 says; whether it was done is answered.
func (l *life) goesOn(t *testing.T, a ask) bool {
	t.Helper()
	want, f := a.told(l.row)
	n, e := a.do(l.row)
	if n != want || e != f {
		t.Fatalf("%+v of %+v: %+v, %d; want %+v, %d", a, l.row, n, e, want, f)
	}
	if e != api.OK {
		return false
	}
	if n.Ver != l.row.Ver+1 {
		t.Fatalf("%+v of %+v: Ver %d", a, l.row, n.Ver)
	}
	comes := n.Owner != api.Nobody && n.Owner != l.row.Owner
	if rises := n.Gen == l.row.Gen+1; rises != comes || !rises && n.Gen != l.row.Gen {
		t.Fatalf("%+v of %+v: %+v: a new owner: %t", a, l.row, n, comes)
	}
	if was, ok := l.owners[n.Gen]; ok && n.Owner != api.Nobody && was != n.Owner {
		t.Fatalf("%+v of %+v: %+v: of that Gen %d was the owner", a, l.row, n, was)
	}
	if n.Owner != api.Nobody {
		l.owners[n.Gen] = n.Owner
	}
	l.row = n
	return true
}

// any is any act, most often one that may be done to a row.
func (c *chance) any(r api.Row) ask {
	names := [][]string{{"start", "drop"}, {"awake", "commit", "abort", "late"}, {"commit", "late"}, {"again"}}[r.Phase]
	if c.below(3) == 0 {
		names = []string{"again", "start", "awake", "commit", "abort", "drop", "late"}
	}
	a := ask{name: names[c.below(len(names))], mac: uint64(c.below(5)), chassis: c.below(16), ver: r.Ver, now: r.Since, span: c.below(6) - 1}
	a.now = min(1<<40, max(0, a.now+c.below(9)-2))
	if r.Target >= 0 && c.below(3) > 0 {
		a.chassis = r.Target
	}
	switch c.below(20) {
	case 0:
		a.ver += c.below(3) - 1
	case 1:
		a.chassis = [...]int{-1, 16, r.Owner, r.Old}[c.below(4)]
	case 2:
		a.now = [...]int{-1, 0, 1 << 40, 1<<40 + 1}[c.below(4)]
	case 3:
		a.span = [...]int{math.MinInt, 1 << 40, math.MaxInt}[c.below(3)]
	case 4:
		a.mac = [...]uint64{1<<48 - 1, 1 << 48}[c.below(2)]
	}
	return a
}

// TestLives: P9.2, P9.1: any acts one behind the other, held against a plain row; of one Gen there is one owner.
func TestLives(t *testing.T) {
	c := chance(1)
	done := map[string]int{}
	for range 200 {
		r, e := phase.New(c.below(32), uint64(c.below(9)), c.below(16), c.below(100))
		if e != api.OK {
			t.Fatalf("New: %d", e)
		}
		l := begun(r)
		for range 400 {
			a := c.any(l.row)
			if l.goesOn(t, a) {
				done[a.name]++
			}
		}
		if l.row.Ver < 100 || l.row.Gen != len(l.owners) {
			t.Errorf("%+v: %d generations with an owner", l.row, len(l.owners))
		}
	}
	if len(done) != 7 {
		t.Errorf("not each act was done: %v", done)
	}
}

// TestLastLives: P9.2, P9.1: any acts where generations and versions come to their end: what was begun comes to its end, and then nothing starts.
func TestLastLives(t *testing.T) {
	c := chance(2)
	for i := range 500 {
		r := row(0, gen(1<<32-1-c.below(8)), ver(1))
		if i%2 == 0 {
			r = row(0, ver(1<<40-16-c.below(8)))
		}
		l := begun(r)
		for range 100 {
			l.goesOn(t, c.any(l.row))
			if l.row.Ver > 1<<40-10 {
				t.Fatalf("%+v", l.row)
			}
		}
		for l.row.Phase == api.Moving || l.row.Phase == api.Moved {
			if !l.goesOn(t, ask{name: "commit", now: 5100}) {
				t.Fatalf("%+v does not come to its end", l.row)
			}
		}
		for _, a := range []ask{{name: "start", chassis: 6, now: 1}, {name: "again", chassis: 6, now: 1}} {
			if l.goesOn(t, a) && i%2 == 0 {
				t.Fatalf("%+v", l.row)
			}
		}
	}
}

// some are acts of a few chassis, at one time.
func some(r api.Row) []ask {
	l := []ask{{name: "commit", now: 8}, {name: "abort", now: 8}, {name: "drop", now: 8}, {name: "late", now: 8}, {name: "late", now: 8, span: 9}}
	for n := range 3 {
		l = append(l, ask{name: "start", chassis: n, now: 8}, ask{name: "again", mac: 5, chassis: n, now: 8})
		l = append(l, ask{name: "awake", chassis: n, ver: r.Ver, now: 8}, ask{name: "awake", chassis: n, ver: r.Ver - 1, now: 8})
	}
	return l
}

// follows goes on with a row by all orders of so many acts that are done, and tells how many rows came.
func follows(t *testing.T, l *life, most int) int {
	count := 1
	if most == 0 {
		return count
	}
	for _, a := range some(l.row) {
		next := begun(l.row)
		for g, n := range l.owners {
			next.owners[g] = n
		}
		if next.goesOn(t, a) {
			count += follows(t, next, most-1)
		}
	}
	return count
}

// TestAllOrders: P9.2, P9.1: all orders of a few acts, of three chassis.
func TestAllOrders(t *testing.T) {
	r, e := phase.New(3, 5, 0, 8)
	if e != api.OK {
		t.Fatalf("New: %d", e)
	}
	if n := follows(t, begun(r), 9); n < 40000 {
		t.Errorf("only %d rows", n)
	}
}

// TestAWayThrough: P9.2: the third example of the whole, and on: where the port is, and of which generation.
func TestAWayThrough(t *testing.T) {
	r, e := phase.New(3, 7, 1, 10)
	for i, x := range []struct {
		a    ask
		want api.Row
	}{
		{ask{name: "start", chassis: 2, now: 11}, api.Row{Port: 3, MAC: 7, Owner: 1, Target: 2, Old: -1, Gen: 1, Phase: 1, Ver: 2, Since: 11}},
		{ask{name: "abort", now: 12}, api.Row{Port: 3, MAC: 7, Owner: 1, Target: -1, Old: -1, Gen: 1, Phase: 0, Ver: 3, Since: 12}},
		{ask{name: "start", chassis: 2, now: 13}, api.Row{Port: 3, MAC: 7, Owner: 1, Target: 2, Old: -1, Gen: 1, Phase: 1, Ver: 4, Since: 13}},
		{ask{name: "awake", chassis: 2, ver: 4, now: 14}, api.Row{Port: 3, MAC: 7, Owner: 2, Target: -1, Old: 1, Gen: 2, Phase: 2, Ver: 5, Since: 14}},
		{ask{name: "late", now: 24, span: 10}, api.Row{Port: 3, MAC: 7, Owner: 2, Target: -1, Old: -1, Gen: 2, Phase: 0, Ver: 6, Since: 24}},
		{ask{name: "drop", now: 25}, api.Row{Port: 3, MAC: 7, Owner: -1, Target: -1, Old: -1, Gen: 2, Phase: 3, Ver: 7, Since: 25}},
		{ask{name: "again", mac: 9, chassis: 2, now: 26}, api.Row{Port: 3, MAC: 9, Owner: 2, Target: -1, Old: -1, Gen: 3, Phase: 0, Ver: 8, Since: 26}},
	} {
		if e != api.OK {
			t.Fatalf("%d: %d", i, e)
		}
		answers(t, x.a, r, x.want, api.OK)
		r, e = x.a.do(r)
	}
}

// TestSameAnswers: P2: the same acts answer the same, whatever was asked between.
func TestSameAnswers(t *testing.T) {
	c := chance(3)
	var l []ask
	var rows, got []api.Row
	for range 2000 {
		r := rightRows()[c.below(len(rightRows()))]
		a := c.any(r)
		n, _ := a.do(r)
		l, rows, got = append(l, a), append(rows, r), append(got, n)
	}
	for i := len(l) - 1; i >= 0; i-- {
		if n, _ := l[i].do(rows[i]); n != got[i] {
			t.Fatalf("%+v of %+v: %+v; was %+v", l[i], rows[i], n, got[i])
		}
	}
}

// FuzzActs: P9.1, P1: each act, of any row, whatever it is asked with; go test runs the seeds alone.
func FuzzActs(f *testing.F) {
	for _, r := range append(each(), row(1, gen(1<<32)), row(0, ver(1<<40)), api.Row{}) {
		f.Add(r.Port, r.MAC, r.Owner, r.Target, r.Old, r.Gen, int(r.Phase), r.Ver, r.Since, uint64(5), 6, 900, 5100, 100)
		f.Add(r.Port, r.MAC, r.Owner, r.Target, r.Old, r.Gen, int(r.Phase), r.Ver, r.Since, uint64(1<<48), 16, -1, -1, math.MaxInt)
	}
	f.Fuzz(func(t *testing.T, p int, m uint64, o, n, d, g, in, v, s int, mac uint64, chassis, of, now, span int) {
		r := api.Row{Port: p, MAC: m, Owner: o, Target: n, Old: d, Gen: g, Phase: api.Phase(in), Ver: v, Since: s}
		for _, name := range []string{"new", "again", "start", "awake", "commit", "abort", "drop", "late"} {
			asToldAnew(t, ask{name: name, port: p, mac: mac, chassis: chassis, ver: of, now: now, span: span}, r)
		}
	})
}
