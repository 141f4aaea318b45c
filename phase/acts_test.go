package phase_test

import (
	"math"
	"testing"

	"rutter/api"
	"rutter/phase"
)

// TestNew: P9.1: a bound row, with Gen 1, Ver 1, at the edges of all that it is asked with.
func TestNew(t *testing.T) {
	want := api.Row{Port: 3, MAC: 1<<41 + 3, Owner: 1, Target: -1, Old: -1, Gen: 1, Phase: api.Bound, Ver: 1, Since: 7}
	if r, e := phase.New(3, 1<<41+3, 1, 7); r != want || e != api.OK {
		t.Errorf("%+v, %d", r, e)
	}
	for _, n := range []int{0, 1, 30, 31} {
		answers(t, ask{name: "new", port: n, mac: 5, chassis: 2, now: 9}, api.Row{}, with(want, port(n), mac(5), owner(2), since(9)), api.OK)
	}
	for _, n := range []int{math.MinInt, -1, 32, 33, 256, 1 << 32, math.MaxInt} {
		fails(t, ask{name: "new", port: n, mac: 5, chassis: 2, now: 9}, api.Row{}, api.ErrArg)
	}
	for _, n := range []uint64{0, 1, 1<<48 - 1} {
		answers(t, ask{name: "new", port: 3, mac: n, chassis: 1, now: 7}, api.Row{}, with(want, mac(n)), api.OK)
	}
	for _, n := range []uint64{1 << 48, 1<<48 + 1, 1 << 63, math.MaxUint64} {
		fails(t, ask{name: "new", port: 3, mac: n, chassis: 1, now: 7}, api.Row{}, api.ErrArg)
	}
	for _, n := range []int{0, 14, 15} {
		answers(t, ask{name: "new", port: 3, mac: 5, chassis: n, now: 7}, api.Row{}, with(want, mac(5), owner(n)), api.OK)
	}
	for _, n := range []int{math.MinInt, -2, -1, 16, 17, 256, 1 << 32, math.MaxInt} {
		fails(t, ask{name: "new", port: 3, mac: 5, chassis: n, now: 7}, api.Row{}, api.ErrArg)
	}
	for _, n := range []int{0, 1, 1<<40 - 1, 1 << 40} {
		answers(t, ask{name: "new", port: 3, mac: 5, chassis: 1, now: n}, api.Row{}, with(want, mac(5), since(n)), api.OK)
	}
	for _, n := range []int{math.MinInt, -1, 1<<40 + 1, 1 << 41, math.MaxInt} {
		fails(t, ask{name: "new", port: 3, mac: 5, chassis: 1, now: n}, api.Row{}, api.ErrArg)
	}
}

// TestStart: P9.1: what is bound moves, with that target; what isn't named stays.
func TestStart(t *testing.T) {
	a := ask{name: "start", chassis: 6, now: 5100}
	answers(t, a, row(0), api.Row{Port: 9, MAC: 0x0a0b0c0d0e0f, Owner: 3, Target: 6, Old: -1, Gen: 70, Phase: api.Moving, Ver: 901, Since: 5100}, api.OK)
	for _, n := range []api.Phase{1, 2, 3} {
		fails(t, a, row(n), api.ErrState)
	}
	for n := range 16 {
		a.chassis = n
		if n == 3 {
			fails(t, a, row(0), api.ErrSame)
			continue
		}
		answers(t, a, row(0), row(1, target(n), ver(901), since(5100)), api.OK)
	}
}

// TestAwake: P9.1: what moves has moved, if its target tells it of its version.
func TestAwake(t *testing.T) {
	a := ask{name: "awake", chassis: 6, ver: 900, now: 5100}
	answers(t, a, row(1), api.Row{Port: 9, MAC: 0x0a0b0c0d0e0f, Owner: 6, Target: -1, Old: 3, Gen: 71, Phase: api.Moved, Ver: 901, Since: 5100}, api.OK)
	for _, n := range []api.Phase{0, 2, 3} {
		fails(t, a, row(n), api.ErrState)
	}
	for n := range 16 {
		a.chassis = n
		if n != 6 {
			fails(t, a, row(1), api.ErrUsed)
		}
	}
	for _, n := range []int{math.MinInt, -900, -1, 0, 1, 899, 901, 1 << 40, 1<<40 + 1, 1<<40 + 900, 1<<32 + 900, math.MaxInt} {
		for _, by := range []int{6, 5, 3} {
			fails(t, ask{name: "awake", chassis: by, ver: n, now: 5100}, row(1), api.ErrState)
		}
	}
}

// TestCommit: P9.1: of what moves as Awake of its target, for its version; what moved is bound.
func TestCommit(t *testing.T) {
	a := ask{name: "commit", now: 5100}
	answers(t, a, row(1), row(2, who(6, -1, 3), gen(71), ver(901), since(5100)), api.OK)
	answers(t, a, row(2), row(0, owner(3), ver(901), since(5100)), api.OK)
	fails(t, a, row(0), api.ErrState)
	fails(t, a, row(3), api.ErrState)
	for _, r := range append(rightRows(), wrongRows()...) {
		if r.Phase != api.Moving {
			continue
		}
		want, e := phase.Awake(r, r.Target, r.Ver, 5100)
		answers(t, a, r, want, e)
	}
}

// TestAbort: P9.1: what moves is bound where it was.
func TestAbort(t *testing.T) {
	a := ask{name: "abort", now: 5100}
	answers(t, a, row(1), row(0, owner(3), ver(901), since(5100)), api.OK)
	for _, n := range []api.Phase{0, 2, 3} {
		fails(t, a, row(n), api.ErrState)
	}
}

// TestDrop: P9.1: what is bound is gone.
func TestDrop(t *testing.T) {
	a := ask{name: "drop", now: 5100}
	answers(t, a, row(0), row(3, ver(901), since(5100)), api.OK)
	for _, n := range []api.Phase{1, 2, 3} {
		fails(t, a, row(n), api.ErrState)
	}
}

// TestAgain: P9.1: what is gone is bound again, by the same owner as before and by another, with that address, and Gen one more.
func TestAgain(t *testing.T) {
	for n := range 16 {
		bound := row(0)
		r, e := phase.Drop(bound, 5050)
		if e != api.OK {
			t.Fatalf("Drop: %d", e)
		}
		want := api.Row{Port: 9, MAC: 5, Owner: n, Target: -1, Old: -1, Gen: 71, Phase: api.Bound, Ver: 902, Since: 5100}
		answers(t, ask{name: "again", mac: 5, chassis: n, now: 5100}, r, want, api.OK)
		answers(t, ask{name: "again", mac: r.MAC, chassis: n, now: 5100}, r, with(want, mac(r.MAC)), api.OK)
	}
	for _, n := range []api.Phase{0, 1, 2} {
		fails(t, ask{name: "again", mac: 5, chassis: 3, now: 5100}, row(n), api.ErrState)
	}
	for _, n := range []uint64{0, 1, 1<<48 - 1} {
		answers(t, ask{name: "again", mac: n, chassis: 4, now: 5100}, row(3), row(0, mac(n), owner(4), gen(71), ver(901), since(5100)), api.OK)
	}
}

// asks is each act that is done to a row, as it is done to ordinary ones, and the phase it is for.
func asks() map[ask]api.Phase {
	return map[ask]api.Phase{
		{name: "again", mac: 5, chassis: 4, now: 5100}:   3,
		{name: "start", chassis: 6, now: 5100}:           0,
		{name: "awake", chassis: 6, ver: 900, now: 5100}: 1,
		{name: "commit", now: 5100}:                      2,
		{name: "abort", now: 5100}:                       1,
		{name: "drop", now: 5100}:                        0,
	}
}

// TestTimes: P9.1: Since is now, whether that is behind it, ahead of it, or the same; and which times may not be.
func TestTimes(t *testing.T) {
	for a, p := range asks() {
		for _, s := range []int{0, 5000, 1 << 40} {
			for _, n := range []int{0, 1, 4999, 5000, 5001, 1<<40 - 1, 1 << 40} {
				a.now = n
				if got, e := a.do(row(p, since(s))); got.Since != n || got.Ver != 901 || e != api.OK {
					t.Errorf("%+v: %+v, %d", a, got, e)
				}
			}
			for _, n := range []int{math.MinInt, -1 << 40, -1, 1<<40 + 1, 1 << 41, math.MaxInt} {
				a.now = n
				fails(t, a, row(p, since(s)), api.ErrArg)
			}
		}
	}
}

// TestWrongRows: P9.1: a row that may not be, in each of its fields, and by its phase, is ErrArg to each act.
func TestWrongRows(t *testing.T) {
	for a := range asks() {
		for _, r := range wrongRows() {
			fails(t, a, r, api.ErrArg)
		}
	}
}

// TestWrongArgs: P9.1: which chassis and addresses may not be; this is told ahead of all other errors.
func TestWrongArgs(t *testing.T) {
	rows := append(rightRows(), wrongRows()...)
	for _, n := range []int{math.MinInt, -16, -2, -1, 16, 17, 256, 256 + 6, 1<<32 + 6, math.MaxInt} {
		for _, r := range append(rows, row(1, target(n)), row(0, owner(n))) {
			fails(t, ask{name: "again", mac: 5, chassis: n, now: 5100}, r, api.ErrArg)
			fails(t, ask{name: "start", chassis: n, now: 5100}, r, api.ErrArg)
			fails(t, ask{name: "awake", chassis: n, ver: r.Ver, now: 5100}, r, api.ErrArg)
			fails(t, ask{name: "awake", chassis: n, ver: 1, now: 5100}, r, api.ErrArg)
		}
	}
	for _, n := range []uint64{1 << 48, 1<<48 + 5, 1 << 63, math.MaxUint64} {
		for _, r := range rows {
			fails(t, ask{name: "again", mac: n, chassis: 4, now: 5100}, r, api.ErrArg)
		}
	}
}

// TestErrorsInOrder: P9.1: where several apply, it is the first one.
func TestErrorsInOrder(t *testing.T) {
	out := []change{gen(1 << 32), ver(1 << 40)}
	start := ask{name: "start", chassis: 3, now: 5100}
	fails(t, start, row(1, out...), api.ErrState)
	fails(t, start, row(2, out...), api.ErrState)
	fails(t, start, row(3, out...), api.ErrState)
	fails(t, start, row(0, out...), api.ErrSame)
	start.chassis = 6
	fails(t, start, row(0, out...), api.ErrGen)
	start.now = -1
	fails(t, start, row(0, out...), api.ErrArg)
	again := ask{name: "again", mac: 5, chassis: 3, now: 5100}
	fails(t, again, row(0, out...), api.ErrState)
	fails(t, again, row(3, out...), api.ErrGen)
	again.mac = 1 << 48
	fails(t, again, row(3, out...), api.ErrArg)
	awake := ask{name: "awake", chassis: 5, ver: 899, now: 5100}
	fails(t, awake, row(2, out...), api.ErrState)
	fails(t, awake, row(1), api.ErrState)
	fails(t, awake, row(1, out...), api.ErrState)
	awake.ver = 1 << 40
	fails(t, awake, row(1, out...), api.ErrUsed)
	awake.chassis = 6
	fails(t, awake, row(1, out...), api.ErrArg)
	fails(t, ask{name: "commit", now: 5100}, row(0, out...), api.ErrState)
	fails(t, ask{name: "abort", now: 5100}, row(0, out...), api.ErrState)
	fails(t, ask{name: "drop", now: 5100}, row(1, out...), api.ErrState)
}

// TestLastGen: P9.1: with a Gen of 2^32 nothing starts and nothing is bound again: ErrGen; what would have one more is none: ErrArg.
func TestLastGen(t *testing.T) {
	for a, p := range asks() {
		if _, e := a.do(row(p, gen(1<<32-1))); e != api.OK {
			t.Errorf("%+v: %d", a, e)
		}
		want := api.OK
		switch a.name {
		case "start", "again":
			want = api.ErrGen
		case "awake":
			want = api.ErrArg
		}
		if got, e := a.do(row(p, gen(1<<32))); e != want || (got == api.Row{}) != (e != api.OK) {
			t.Errorf("%+v: %+v, %d; want %d", a, got, e, want)
		}
	}
	fails(t, ask{name: "commit", now: 5100}, row(1, gen(1<<32)), api.ErrArg)
	answers(t, ask{name: "commit", now: 5100}, row(1, gen(1<<32-1)), row(2, who(6, -1, 3), gen(1<<32), ver(901), since(5100)), api.OK)
	answers(t, ask{name: "again", mac: 5, chassis: 4, now: 5100}, row(3, gen(1<<32-1)), row(0, mac(5), owner(4), gen(1<<32), ver(901), since(5100)), api.OK)
}

// TestLastVersions: P9.1: above 2^40 less 16 nothing starts and nothing is bound again: ErrGen; behind 2^40 there is no version: ErrArg.
func TestLastVersions(t *testing.T) {
	for a, p := range asks() {
		if a.name == "commit" {
			lastVersions(t, a, row(1))
		}
		lastVersions(t, a, row(p))
	}
}

// lastVersions checks an act at the last versions of a row.
func lastVersions(t *testing.T, a ask, r api.Row) {
	t.Helper()
	ends := a.name == "start" || a.name == "again"
	for n := 20; n >= 0; n-- {
		want := api.OK
		switch {
		case ends && n < 16:
			want = api.ErrGen
		case n == 0:
			want = api.ErrArg
		}
		r.Ver = 1<<40 - n
		a.ver = r.Ver
		got, e := a.do(r)
		if e != want || (e == api.OK && got.Ver != r.Ver+1) || (e != api.OK && got != api.Row{}) {
			t.Errorf("%+v of %+v: %+v, %d; want %d", a, r, got, e, want)
		}
	}
}

// everything is each act, with all edges of what it may be asked with of a row.
func everything(r api.Row) []ask {
	var l []ask
	times := []int{math.MinInt, -1, 0, 5100, 1 << 40, 1<<40 + 1, math.MaxInt}
	for _, now := range times {
		l = append(l, ask{name: "commit", now: now}, ask{name: "abort", now: now}, ask{name: "drop", now: now})
		for _, n := range []int{math.MinInt, -1, 0, 3, 6, 8, 15, 16, math.MaxInt} {
			l = append(l, ask{name: "start", chassis: n, now: now})
			for _, v := range []int{-1, 0, 1, r.Ver - 1, r.Ver, r.Ver + 1} {
				l = append(l, ask{name: "awake", chassis: n, ver: v, now: now})
			}
			for _, m := range []uint64{0, r.MAC, 1<<48 - 1, 1 << 48} {
				l = append(l, ask{name: "again", mac: m, chassis: n, now: now}, ask{name: "new", port: r.Port, mac: m, chassis: n, now: now})
			}
		}
		for _, n := range spans(r, now) {
			l = append(l, ask{name: "late", now: now, span: n})
		}
	}
	return l
}

// TestEverything: P9.1, P1, P2: each act at all edges of rows, and of what it is asked with.
func TestEverything(t *testing.T) {
	for _, r := range append(rightRows(), wrongRows()...) {
		for _, a := range everything(r) {
			asToldAnew(t, a, r)
		}
	}
}

// TestWhatIsHandedIn: rule 4: a row that is handed in stays, whether the act is done or not.
func TestWhatIsHandedIn(t *testing.T) {
	for _, r := range rightRows() {
		was := r
		for _, a := range everything(r) {
			if a.do(r); r != was {
				t.Fatalf("%+v: %+v; was %+v", a, r, was)
			}
		}
	}
}
