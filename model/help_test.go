package model_test

import (
	"fmt"
	"math"
	"slices"
	"sort"
	"testing"

	"rutter/api"
	"rutter/model"
)

// An ordinary model has a span. Most is done at noon.
const (
	span = 10
	noon = 100
)

// mac is a port's usual address.
func mac(port int) uint64 { return 1<<41 + uint64(port) }

// Rows of each phase, with a port's usual address, since noon.
func bound(port, owner, gen, ver int) api.Row {
	return api.Row{Port: port, MAC: mac(port), Owner: owner, Target: -1, Old: -1, Gen: gen, Phase: api.Bound, Ver: ver, Since: noon}
}

func moving(port, owner, target, gen, ver int) api.Row {
	return api.Row{Port: port, MAC: mac(port), Owner: owner, Target: target, Old: -1, Gen: gen, Phase: api.Moving, Ver: ver, Since: noon}
}

func moved(port, owner, old, gen, ver int) api.Row {
	return api.Row{Port: port, MAC: mac(port), Owner: owner, Target: -1, Old: old, Gen: gen, Phase: api.Moved, Ver: ver, Since: noon}
}

func gone(port, gen, ver int) api.Row {
	return api.Row{Port: port, MAC: mac(port), Owner: -1, Target: -1, Old: -1, Gen: gen, Phase: api.Gone, Ver: ver, Since: noon}
}

// with is a row with another address; at is one since another time.
func with(address uint64, r api.Row) api.Row {
	r.MAC = address
	return r
}

func at(now int, r api.Row) api.Row {
	r.Since = now
	return r
}

// asks is a call of these, with the port's usual address; adds is the call that adds a chassis.
func asks(op api.Op, port, chassis int) api.Call {
	return api.Call{Op: op, Port: port, Chassis: chassis, MAC: mac(port)}
}

func adds(chassis int) api.Call { return api.Call{Op: api.AddChassis, Chassis: chassis} }

// Numbers that are no chassis', no port's, no op's, and no addresses.
func wrongChassis() []int {
	return []int{math.MinInt, -1 << 32, -16, -2, -1, 16, 17, 255, 256, 257, 1<<32 - 1, 1 << 32, 1<<32 + 1, math.MaxInt}
}

func wrongPorts() []int {
	return []int{math.MinInt, -1 << 32, -32, -2, -1, 32, 33, 255, 256, 257, 1<<32 - 1, 1 << 32, 1<<32 + 1, math.MaxInt}
}

func wrongOps() []api.Op {
	return []api.Op{math.MinInt, -1 << 32, -8, -2, -1, 8, 9, 255, 256, 257, 1<<32 - 1, 1 << 32, 1<<32 + 2, math.MaxInt}
}

func wrongAddresses() []uint64 { return []uint64{1 << 48, 1<<48 + 1, 1 << 63, math.MaxUint64} }

// made is a new model.
func made(t testing.TB, span int) *model.Model {
	t.Helper()
	m, e := model.New(span)
	if m == nil || e != api.OK {
		t.Fatalf("New(%d): %v, %d", span, m, e)
	}
	return m
}

// does checks that a call is done, and answers this.
func does(t testing.TB, m *model.Model, x api.Call, want api.Row) {
	t.Helper()
	if r, e := m.Do(x); r != want || e != api.OK {
		t.Fatalf("%+v: %+v, %d; want %+v", x, r, e, want)
	}
}

// becomes checks that a call answers a row, which is the port's then, all others staying.
func becomes(t testing.TB, m *model.Model, x api.Call, want api.Row) {
	t.Helper()
	rows, chassis := slices.DeleteFunc(m.Rows(), func(r api.Row) bool { return r.Port == want.Port }), m.Chassis()
	does(t, m, x, want)
	has(t, m, append(rows, want)...)
	are(t, m, chassis...)
}

// has checks that a model has these rows, whatever their order here, and no others.
func has(t testing.TB, m *model.Model, want ...api.Row) {
	t.Helper()
	want = slices.SortedFunc(slices.Values(want), func(a, b api.Row) int { return a.Port - b.Port })
	if got := m.Rows(); !slices.Equal(got, want) {
		t.Fatalf("Rows: %+v; want %+v", got, want)
	}
}

// are checks which chassis there are.
func are(t testing.TB, m *model.Model, want ...int) {
	t.Helper()
	if got := m.Chassis(); !slices.Equal(got, want) {
		t.Fatalf("Chassis: %d; want %d", got, want)
	}
}

// ticks lets time pass.
func ticks(t testing.TB, m *model.Model, now int) {
	t.Helper()
	if e := m.Tick(now); e != api.OK {
		t.Fatalf("Tick to %d: %d", now, e)
	}
}

// clock is a model's NOW, as the least time to which a clone ticks tells it.
func clock(m *model.Model) int {
	return sort.Search(1<<40, func(n int) bool { return m.Clone().Tick(n) == api.OK })
}

// look tells all that can be told of a model.
func look(m *model.Model) string { return fmt.Sprint(m.Rows(), m.Chassis(), clock(m)) }

// refuses checks that a call has an error, and that it changes nothing.
func refuses(t testing.TB, m *model.Model, x api.Call, want api.Errno) {
	t.Helper()
	rows, chassis := m.Rows(), m.Chassis()
	for range 2 {
		if r, e := m.Do(x); r != (api.Row{}) || e != want {
			t.Errorf("%+v: %+v, %d; want the error %d", x, r, e, want)
		}
		has(t, m, rows...)
		are(t, m, chassis...)
	}
}

// each is a model at noon, of chassis 0 to 3, with a port of each phase: 1 is bound, 2 moving, 3 moved, and 4 gone.
func each(t testing.TB) *model.Model {
	t.Helper()
	m := made(t, span)
	ticks(t, m, noon)
	for _, n := range []int{2, 0, 3, 1} {
		does(t, m, adds(n), api.Row{})
	}
	for _, port := range []int{3, 1, 4, 2} {
		does(t, m, asks(api.AddPort, port, 0), bound(port, 0, 1, 1))
	}
	does(t, m, asks(api.Start, 2, 1), moving(2, 0, 1, 1, 2))
	does(t, m, asks(api.Start, 3, 2), moving(3, 0, 2, 1, 2))
	does(t, m, asks(api.Commit, 3, 0), moved(3, 2, 0, 2, 3))
	does(t, m, asks(api.RemovePort, 4, 0), gone(4, 1, 2))
	has(t, m, bound(1, 0, 1, 1), moving(2, 0, 1, 1, 2), moved(3, 2, 0, 2, 3), gone(4, 1, 2))
	are(t, m, 0, 1, 2, 3)
	return m
}
