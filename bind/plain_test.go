package bind_test

import (
	"math"
	"testing"

	"rutter/api"
	"rutter/bind"
	"rutter/flow"
)

// own is the address of port 3's row.
const own = 1<<41 + 3

// of makes a row.
type of func(r *api.Row)

func port(n int) of         { return func(r *api.Row) { r.Port = n } }
func mac(n uint64) of       { return func(r *api.Row) { r.MAC = n } }
func owner(n int) of        { return func(r *api.Row) { r.Owner = n } }
func target(n int) of       { return func(r *api.Row) { r.Target = n } }
func old(n int) of          { return func(r *api.Row) { r.Old = n } }
func gen(n int) of          { return func(r *api.Row) { r.Gen = n } }
func phased(p api.Phase) of { return func(r *api.Row) { r.Phase = p } }
func ver(n int) of          { return func(r *api.Row) { r.Ver = n } }
func since(n int) of        { return func(r *api.Row) { r.Since = n } }

// row is one of port 3 in a phase: 4 is its owner; when it moves, it moves to 7, and when it has moved, it was at 7.
func row(p api.Phase, l ...of) api.Row {
	r := api.Row{Port: 3, MAC: own, Owner: 4, Target: -1, Old: -1, Gen: 5, Phase: p, Ver: 9, Since: 8}
	switch p {
	case api.Moving:
		r.Target = 7
	case api.Moved:
		r.Old = 7
	case api.Gone:
		r.Owner = -1
	}
	for _, change := range l {
		change(&r)
	}
	return r
}

// turn turns something of a key.
type turn func(k *flow.Key)

func keyMAC(n uint64) turn { return func(k *flow.Key) { k.MAC = n } }
func keyPort(n int) turn   { return func(k *flow.Key) { k.Port = n } }
func stamp(n int) turn     { return func(k *flow.Key) { k.Stamp = n } }
func origin(n int) turn    { return func(k *flow.Key) { k.Origin = n } }

// key is one of an IN that is the row's, as a chassis has it, with that changed.
func key(in int, l ...turn) flow.Key {
	k := flow.Key{In: in, Port: 3, Stamp: 5, Origin: 1}
	if in == 0 {
		k = flow.Key{MAC: own, Origin: -1}
	}
	for _, change := range l {
		change(&k)
	}
	return k
}

// does is the action of a kind that the row has; 0 is none.
func does(r api.Row, kind int) flow.Action {
	if kind == 0 {
		return flow.Action{}
	}
	return flow.Action{Kind: kind, Port: r.Port, To: r.Owner, Gen: r.Gen}
}

// plainMeans tells, anew, what a row means: the first case that holds.
func plainMeans(r api.Row, chassis int, k flow.Key) flow.Action {
	its := k.In == 0 && k.MAC == r.MAC || (k.In == 1 || k.In == 2) && k.Port == r.Port
	was := r.Phase == 2 && r.Old == chassis
	for _, x := range []struct {
		holds bool
		kind  int
	}{{!its, 0}, {r.Phase == 3, 0}, {r.Gen < k.Stamp, 0}, {r.Owner == chassis, 1}, {k.In == 0, 2}, {k.In == 1 && was && r.Owner != k.Origin, 2}} {
		if x.holds {
			return does(r, x.kind)
		}
	}
	return flow.Action{}
}

// plainTells tells, anew, what the first row means which means something.
func plainTells(l []api.Row, chassis int, k flow.Key) (flow.Action, bool) {
	for _, r := range l {
		if a := plainMeans(r, chassis, k); a.Kind != 0 {
			return a, true
		}
	}
	return flow.Action{}, false
}

// means checks what Means answers.
func means(t *testing.T, r api.Row, chassis int, k flow.Key, want flow.Action) {
	t.Helper()
	if a := bind.Means(r, chassis, k); a != want {
		t.Errorf("%+v at %d, of %+v: %+v; want %+v", r, chassis, k, a, want)
	}
}

// tells checks what a table tells of a key.
func tells(t *testing.T, s *flow.Table, k flow.Key, want flow.Action) {
	t.Helper()
	if a, ok := s.Look(k); a != want || ok != (want.Kind != 0) {
		t.Errorf("%+v: %+v, %t; want %+v", k, a, ok, want)
	}
}

// made is a table of these rows, which are few enough.
func made(t *testing.T, chassis int, l ...api.Row) *flow.Table {
	t.Helper()
	s, e := bind.Table(chassis, l...)
	if s == nil || e != api.OK {
		t.Fatalf("Table at %d of %d: %v, %d", chassis, len(l), s, e)
	}
	return s
}

// right checks what Compile and Table make of rows that stand, at a chassis, for these keys.
func right(t *testing.T, chassis int, l []api.Row, keys ...flow.Key) {
	t.Helper()
	s, again := made(t, chassis, l...), compiled(t, chassis, l)
	for _, k := range keys {
		want, ok := plainTells(l, chassis, k)
		tells(t, s, k, want)
		if a, too := again.Look(k); a != want || ok != too {
			t.Errorf("%+v at %d, compiled: %+v, %t; want %+v, %t; of %+v", k, chassis, a, too, want, ok, l)
		}
	}
}

// compiled is a table of what Compile told, of which there are two of each row at most.
func compiled(t *testing.T, chassis int, l []api.Row) *flow.Table {
	t.Helper()
	all := bind.Compile(chassis, l...)
	if len(all) > 2*len(l) {
		t.Errorf("%d entries of %d rows", len(all), len(l))
	}
	s, e := flow.New(all...)
	if s == nil || e != api.OK {
		t.Fatalf("New of %d: %d", len(all), e)
	}
	return s
}

// named are the keys of which it is said what a table tells, of these ports and addresses, with stamps around these.
func named(ports []int, macs []uint64, stamps ...int) []flow.Key {
	var l []flow.Key
	for _, m := range macs {
		l = append(l, flow.Key{MAC: m, Origin: -1}, flow.Key{MAC: m, Port: 3, Origin: -1})
	}
	for in := 1; in <= 2; in++ {
		for _, p := range ports {
			for _, s := range stamps {
				for o := range 16 {
					l = append(l, flow.Key{In: in, Port: p, Stamp: s, Origin: o})
				}
			}
		}
	}
	return l
}

// edges are numbers, ordinary ones, and the least and the greatest.
func edges() []int {
	return []int{math.MinInt, math.MinInt + 1, -1 << 40, -1 << 32, -256, -3, -2, -1, 0, 1, 2, 3, 4, 5, 6, 7, 15, 16, 31, 32, 255, 256, 1<<32 - 1, 1 << 32, 1<<32 + 1, 1 << 40, math.MaxInt - 1, math.MaxInt}
}

// macs are addresses, ordinary ones, and the least and the greatest, and numbers above them.
func macs() []uint64 {
	return []uint64{0, 1, 2, 3, 1 << 32, own, own + 1, 1<<48 - 2, 1<<48 - 1, 1 << 48, 1 << 63, math.MaxUint64 - 1, math.MaxUint64}
}

// phases are all.
func phases() []api.Phase { return []api.Phase{api.Bound, api.Moving, api.Moved, api.Gone} }

// wrongPhases are numbers that are none's.
func wrongPhases() []api.Phase {
	return []api.Phase{math.MinInt, -2, -1, 4, 5, 255, 1 << 32, 1<<32 + 2, 1<<32 + 3, math.MaxInt}
}
