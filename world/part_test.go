package world_test

import (
	"reflect"
	"testing"
	"unsafe"

	"rutter/disk"
	"rutter/net"
	"rutter/world"
)

// part is a world's part of a type, wherever the world keeps it, so that what no call of the world could bring about can be, and be looked at; where it can't be found, the test is left out.
func part[T any](t testing.TB, w *world.World) *T {
	t.Helper()
	v := reflect.ValueOf(w).Elem()
	if v.Kind() != reflect.Struct {
		t.Skip("a world is no struct")
	}
	for i := range v.NumField() {
		f := v.Field(i)
		there := unsafe.Pointer(f.UnsafeAddr())
		switch f.Type() {
		case reflect.TypeFor[T]():
			return (*T)(there)
		case reflect.TypeFor[*T]():
			if p := *(**T)(there); p != nil {
				return p
			}
		}
	}
	t.Skipf("no %v is found in a world", reflect.TypeFor[T]())
	return nil
}

// fileOf is a world's file; netOf its net, which is there at the latest when it was asked for.
func fileOf(t testing.TB, w *world.World) *disk.File {
	t.Helper()
	return part[disk.File](t, w)
}

func netOf(t testing.TB, w *world.World) *net.Net {
	t.Helper()
	w.Len()
	return part[net.Net](t, w)
}
