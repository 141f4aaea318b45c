package model_test

import (
	"math"
	"testing"

	"rutter/api"
	"rutter/model"
)

// TestNew: P20.1: a model of each span that may be has an empty store, and NOW is 0.
func TestNew(t *testing.T) {
	for _, n := range []int{1, 2, span, 1 << 16, 1<<31 - 1, 1 << 31} {
		m := made(t, n)
		has(t, m)
		are(t, m)
		if e := m.Tick(-1); e != api.ErrArg || clock(m) != 0 {
			t.Errorf("of the span %d: to -1 %d; NOW is %d", n, e, clock(m))
		}
		for port := range 32 {
			refuses(t, m, asks(api.Query, port, 0), api.ErrNone)
			if m.Awake(0, port, 0) || m.Awake(0, port, 1) {
				t.Errorf("port %d, that has no row, is awake", port)
			}
		}
		does(t, m, adds(0), api.Row{})
		becomes(t, m, asks(api.AddPort, 3, 0), at(0, bound(3, 0, 1, 1)))
	}
}

// TestNewWrong: P20.1: a span that can't be.
func TestNewWrong(t *testing.T) {
	for _, n := range []int{math.MinInt, -1 << 32, -1 << 31, -span, -2, -1, 0, 1<<31 + 1, 1<<31 + 2, 1 << 32, 1<<32 + span, 1 << 40, math.MaxInt} {
		if m, e := model.New(n); m != nil || e != api.ErrArg {
			t.Errorf("New(%d): %v, %d", n, m, e)
		}
	}
}

// TestNil: P20.1, P1: a nil model answers ErrArg, false, nothing, nil, at all arguments.
func TestNil(t *testing.T) {
	var m *model.Model
	numbers := []int{math.MinInt, -1, 0, 1, 3, 15, 16, 31, 32, 1 << 40, 1<<40 + 1, math.MaxInt}
	for op := api.Op(-2); op < 10; op++ {
		for _, n := range numbers {
			x := api.Call{Op: op, Port: n, Chassis: n, MAC: uint64(n)}
			if r, e := m.Do(x); r != (api.Row{}) || e != api.ErrArg {
				t.Errorf("%+v: %+v, %d", x, r, e)
			}
		}
	}
	for _, n := range numbers {
		if e := m.Tick(n); e != api.ErrArg {
			t.Errorf("Tick to %d: %d", n, e)
		}
		if m.Awake(n, n, n) || m.Awake(1, n, 1) || m.Awake(n, 1, 1) {
			t.Errorf("Awake of %d", n)
		}
	}
	if len(m.Rows())+len(m.Chassis()) != 0 || m.Clone() != nil {
		t.Errorf("%+v, %d, %v", m.Rows(), m.Chassis(), m.Clone())
	}
}
