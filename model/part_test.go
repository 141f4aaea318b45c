package model_test

import (
	"reflect"
	"testing"
	"unsafe"

	"rutter/api"
	"rutter/model"
	"rutter/store"
)

// storeOf is a model's store, wherever it keeps it, so that rows may stand there to which it would take too many calls to come; where it can't be found, the test is left out.
func storeOf(t testing.TB, m *model.Model) *store.Store {
	t.Helper()
	v := reflect.ValueOf(m).Elem()
	if v.Kind() != reflect.Struct {
		t.Skip("a model is no struct")
	}
	for i := range v.NumField() {
		f := v.Field(i)
		there := unsafe.Pointer(f.UnsafeAddr())
		switch f.Type() {
		case reflect.TypeFor[store.Store]():
			return (*store.Store)(there)
		case reflect.TypeFor[*store.Store]():
			if s := *(**store.Store)(there); s != nil {
				return s
			}
		}
	}
	t.Skip("no store is found in a model")
	return nil
}

// holding is a model at noon, of chassis 0 to 3, that has these rows.
func holding(t testing.TB, rows ...api.Row) *model.Model {
	t.Helper()
	m := made(t, span)
	ticks(t, m, noon)
	for n := range 4 {
		does(t, m, adds(n), api.Row{})
	}
	s := storeOf(t, m)
	for _, r := range rows {
		if e := s.Apply(store.Change{Row: r}); e != api.OK {
			t.Fatalf("%+v: %d", r, e)
		}
	}
	has(t, m, rows...)
	return m
}

// TestSpent: P20.1: a row whose generations, or versions, are spent neither starts nor is bound again: ErrGen, behind 9's other errors, and ahead of the store's.
func TestSpent(t *testing.T) {
	m := holding(t, bound(1, 0, 1<<32, 3), bound(2, 0, 9, 1<<40-15), bound(3, 0, 1<<32-1, 1<<40-16), gone(4, 1<<32, 3), gone(5, 9, 1<<40-15), gone(6, 1<<32-1, 1<<40-16))
	for _, port := range []int{1, 2} {
		refuses(t, m, asks(api.Start, port, 16), api.ErrArg)
		refuses(t, m, asks(api.Start, port, 0), api.ErrSame)
		refuses(t, m, asks(api.Start, port, 1), api.ErrGen)
		refuses(t, m, asks(api.Start, port, 9), api.ErrGen)
	}
	for _, port := range []int{4, 5} {
		refuses(t, m, asks(api.AddPort, port, 16), api.ErrArg)
		refuses(t, m, api.Call{Op: api.AddPort, Port: port, Chassis: 1, MAC: 1 << 48}, api.ErrArg)
		refuses(t, m, asks(api.AddPort, port, 1), api.ErrGen)
		refuses(t, m, asks(api.AddPort, port, 9), api.ErrGen)
		refuses(t, m, api.Call{Op: api.AddPort, Port: port, Chassis: 1, MAC: mac(1)}, api.ErrGen)
	}
	becomes(t, m, asks(api.Start, 3, 1), moving(3, 0, 1, 1<<32-1, 1<<40-15))
	becomes(t, m, asks(api.AddPort, 6, 1), bound(6, 1, 1<<32, 1<<40-15))
	becomes(t, m, asks(api.RemovePort, 2, 1), gone(2, 9, 1<<40-14))
	c := m.Clone()
	becomes(t, c, asks(api.Commit, 3, 0), moved(3, 1, 0, 1<<32, 1<<40-14))
	refuses(t, c, asks(api.AddPort, 2, 1), api.ErrGen)
}

// TestLastVersion: P20.1: an act by which a version would be too great is ErrArg, and isn't done by time either.
func TestLastVersion(t *testing.T) {
	m := holding(t, bound(1, 0, 5, 1<<40), moving(2, 0, 1, 6, 1<<40), moved(3, 2, 0, 7, 1<<40), moving(5, 0, 1, 6, 1<<40-1))
	refuses(t, m, asks(api.RemovePort, 1, 0), api.ErrArg)
	refuses(t, m, asks(api.Commit, 2, 0), api.ErrArg)
	refuses(t, m, asks(api.Abort, 2, 0), api.ErrArg)
	refuses(t, m, asks(api.Commit, 3, 0), api.ErrArg)
	asleep(t, m, 1, 2, 1<<40)
	ticks(t, m, noon+span)
	has(t, m, bound(1, 0, 5, 1<<40), moving(2, 0, 1, 6, 1<<40), moved(3, 2, 0, 7, 1<<40), at(noon+span, bound(5, 0, 6, 1<<40)))
}
