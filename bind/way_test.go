package bind_test

import (
	"slices"
	"testing"

	"rutter/api"
	"rutter/bind"
	"rutter/flow"
	"rutter/phase"
)

// oneWay checks what a row's action may be at a chassis, whatever the row is.
func oneWay(t *testing.T, r api.Row, chassis int, k flow.Key, a flow.Action) {
	t.Helper()
	if a.Kind == 0 {
		return
	}
	switch {
	case a.Kind == 2 && a.To == chassis:
		t.Errorf("%+v at %d, of %+v: sent to itself", r, chassis, k)
	case a.Kind == 2 && k.In != 0 && a.To == k.Origin:
		t.Errorf("%+v at %d, of %+v: sent to where it came from", r, chassis, k)
	case a.Kind == 2 && k.In == 2:
		t.Errorf("%+v at %d, of %+v: sent, though it was forwarded", r, chassis, k)
	case a.Kind == 1 && a.To != chassis:
		t.Errorf("%+v at %d, of %+v: delivered to another one", r, chassis, k)
	case k.Stamp > r.Gen || a.Gen != r.Gen:
		t.Errorf("%+v at %d, of %+v: of the stamp", r, chassis, k)
	}
}

// TestOneWay: P14.2: all of few rows, also such as may not be, at each chassis, of all of few keys.
func TestOneWay(t *testing.T) {
	for _, p := range append(phases(), 4, -1) {
		for at := range 9 {
			r := row(p, owner(at%3), old(at/3), target(at/3), gen(2))
			for chassis := -1; chassis <= 3; chassis++ {
				s := made(t, chassis, r)
				for in := range 3 {
					for st := -1; st <= 4; st++ {
						for o := -1; o <= 3; o++ {
							k := key(in, stamp(st), origin(o))
							oneWay(t, r, chassis, k, bind.Means(r, chassis, k))
							a, _ := s.Look(k)
							oneWay(t, r, chassis, k, a)
						}
					}
				}
			}
		}
	}
}

// TestStampAbove: P14.2: what is stamped above the row's Gen is neither delivered nor sent: the example of the whole (6), and others.
func TestStampAbove(t *testing.T) {
	for _, p := range phases() {
		for chassis := -1; chassis <= 16; chassis++ {
			for in := range 3 {
				means(t, row(p), chassis, key(in, stamp(6)), flow.Action{})
				if in > 0 {
					tells(t, made(t, chassis, row(p)), key(in, stamp(6)), flow.Action{})
				}
			}
		}
	}
}

// moves are the rows of a port that is started at 0, moves to 1, to 2, is aborted once, and goes.
func moves(t *testing.T) []api.Row {
	t.Helper()
	r, e := phase.New(3, own, 0, 1)
	l := []api.Row{r}
	for i, act := range []func(api.Row) (api.Row, api.Errno){
		func(r api.Row) (api.Row, api.Errno) { return phase.Start(r, 1, 2) },
		func(r api.Row) (api.Row, api.Errno) { return phase.Awake(r, 1, r.Ver, 3) },
		func(r api.Row) (api.Row, api.Errno) { return phase.Commit(r, 4) },
		func(r api.Row) (api.Row, api.Errno) { return phase.Start(r, 0, 5) },
		func(r api.Row) (api.Row, api.Errno) { return phase.Abort(r, 6) },
		func(r api.Row) (api.Row, api.Errno) { return phase.Start(r, 2, 7) },
		func(r api.Row) (api.Row, api.Errno) { return phase.Commit(r, 8) },
		func(r api.Row) (api.Row, api.Errno) { return phase.Commit(r, 9) },
		func(r api.Row) (api.Row, api.Errno) { return phase.Start(r, 0, 10) },
		func(r api.Row) (api.Row, api.Errno) { return phase.Commit(r, 11) },
		func(r api.Row) (api.Row, api.Errno) { return phase.Commit(r, 12) },
		func(r api.Row) (api.Row, api.Errno) { return phase.Drop(r, 13) },
	} {
		if e != api.OK {
			t.Fatalf("act %d: %d", i, e)
		}
		r, e = act(r)
		l = append(l, r)
	}
	return l
}

// trip is what becomes of a guest's frame, when each chassis has a row of its own, told by tables: over which chassis it goes, and whether it is delivered.
func trip(t *testing.T, tables [][]*flow.Table, has []int, from int) ([]int, flow.Action, int) {
	t.Helper()
	k, way := key(0), []int{from}
	for at := from; ; {
		a, ok := tables[at][has[at]].Look(k)
		if !ok || a.Kind != 2 || len(way) > 5 {
			return way, a, k.Stamp
		}
		in := 1
		if k.In == 1 {
			in = 2
		}
		k = flow.Key{In: in, Port: a.Port, Stamp: a.Gen, Origin: from}
		at = a.To
		way = append(way, at)
	}
}

// TestTrips: P14.2: whatever row of a port's history each of four chassis has, a frame goes over three at most, no one twice, and is delivered by a generation that isn't below its stamp.
func TestTrips(t *testing.T) {
	l := moves(t)
	tables := make([][]*flow.Table, 4)
	for chassis := range tables {
		for _, r := range l {
			tables[chassis] = append(tables[chassis], made(t, chassis, r))
		}
	}
	seen := map[int]int{}
	for n := range len(l) * len(l) * len(l) * len(l) {
		has := []int{n % len(l), n / len(l) % len(l), n / len(l) / len(l) % len(l), n / len(l) / len(l) / len(l)}
		for from := range 4 {
			way, a, st := trip(t, tables, has, from)
			sorted := slices.Clone(way)
			slices.Sort(sorted)
			if len(way) > 3 || len(slices.Compact(sorted)) != len(way) {
				t.Fatalf("%v from %d: over %v", has, from, way)
			}
			if a.Kind == 1 {
				seen[len(way)]++
			}
			if a.Kind == 1 && a.Gen < st {
				t.Fatalf("%v from %d: delivered by %d, of the stamp %d", has, from, a.Gen, st)
			}
		}
	}
	if seen[1] < 100 || seen[2] < 100 || seen[3] < 100 {
		t.Errorf("%v", seen)
	}
}

// TestElderRow: P14.1, P14.2: the example of the whole (2): what 0 sends by an elder row to 1 is forwarded to 2, and not further.
func TestElderRow(t *testing.T) {
	elder := row(api.Bound, owner(1), gen(1))
	now := row(api.Moved, owner(2), old(1), gen(2))
	later := row(api.Moved, owner(3), old(2), gen(3))
	tells(t, made(t, 0, elder), key(0), flow.Action{Kind: 2, Port: 3, To: 1, Gen: 1})
	tells(t, made(t, 1, now), key(1, stamp(1), origin(0)), flow.Action{Kind: 2, Port: 3, To: 2, Gen: 2})
	tells(t, made(t, 2, now), key(2, stamp(2), origin(0)), flow.Action{Kind: 1, Port: 3, To: 2, Gen: 2})
	tells(t, made(t, 2, later), key(2, stamp(2), origin(0)), flow.Action{})
	tells(t, made(t, 2, elder), key(2, stamp(2), origin(0)), flow.Action{})
	tells(t, made(t, 1, elder), key(2, stamp(2), origin(0)), flow.Action{})
}

// TestAWay: P14.1, P14.2: a row that has moved, as README.md tells it.
func TestAWay(t *testing.T) {
	r := api.Row{Port: 3, MAC: own, Owner: 2, Target: api.Nobody, Old: 1, Gen: 5, Phase: api.Moved, Ver: 9}
	k := flow.Key{In: 1, Port: 3, Stamp: 4, Origin: 0}
	guest := flow.Key{MAC: own, Origin: api.Nobody}
	means(t, r, 2, k, flow.Action{Kind: 1, Port: 3, To: 2, Gen: 5})
	means(t, r, 1, k, flow.Action{Kind: 2, Port: 3, To: 2, Gen: 5})
	means(t, r, 0, k, flow.Action{})
	means(t, r, 0, guest, flow.Action{Kind: 2, Port: 3, To: 2, Gen: 5})
	k.In = 2
	means(t, r, 1, k, flow.Action{})
	k.Stamp = 6
	means(t, r, 2, k, flow.Action{})
	right(t, 1, []api.Row{r}, guest)
	tells(t, made(t, 1, r), guest, flow.Action{Kind: 2, Port: 3, To: 2, Gen: 5})
	if s, e := bind.Table(1, slices.Repeat([]api.Row{r}, 257)...); s != nil || e != api.ErrFull {
		t.Errorf("%v, %d", s, e)
	}
}
