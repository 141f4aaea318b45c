package net_test

import (
	"slices"
	"testing"

	"rutter/api"
)

// places are such as no net of so many items has.
func places(n int) []int { return append(beyond(0, n-1), n, n+1, -n, -n-1, 4096, 4097) }

// TestTake: P18.1: the item at a place, the first, one between, the last one, goes; what stands behind it goes up by one place, in its order.
func TestTake(t *testing.T) {
	for size := 1; size < 12; size++ {
		for i := range size {
			n := holding(t, 20, many(size)...)
			takes(t, n, i, nth(i))
			has(t, n, 0, slices.Delete(many(size), i, i+1)...)
		}
	}
}

// TestTakeOrders: P18.1: all that a net has, in any order.
func TestTakeOrders(t *testing.T) {
	for order := range 6 * 5 * 4 * 3 * 2 {
		l := many(6)
		n := holding(t, 6, l...)
		for left, size := order, 6; size > 0; left, size = left/size, size-1 {
			i := left % size
			takes(t, n, i, l[i])
			l = slices.Delete(l, i, i+1)
			has(t, n, 0, l...)
		}
		noTake(t, n, 0, api.ErrNone)
	}
}

// TestTakeWhole: P18.2: what is taken is as it was put, whatever may be.
func TestTakeWhole(t *testing.T) {
	n := holding(t, 4096, rightItems()...)
	for _, x := range rightItems() {
		takes(t, n, 0, x)
	}
	has(t, n, 0)
}

// TestTakeNone: P18.1: where there is no item at the place, nothing goes.
func TestTakeNone(t *testing.T) {
	for _, size := range []int{0, 1, 2, 7} {
		for _, room := range []int{size, size + 1, 4096} {
			n := holding(t, room, many(size)...)
			for _, i := range places(size) {
				noTake(t, n, i, api.ErrNone)
			}
			has(t, n, 0, many(size)...)
		}
	}
}

// TestTakeEmptied: P18.1: of a net from which all went there is nothing more; a new one has nothing.
func TestTakeEmptied(t *testing.T) {
	n := holding(t, 3, many(3)...)
	takes(t, n, 2, nth(2))
	noTake(t, n, 2, api.ErrNone)
	takes(t, n, 0, nth(0))
	noTake(t, n, 1, api.ErrNone)
	takes(t, n, 0, nth(1))
	for _, i := range places(0) {
		noTake(t, n, i, api.ErrNone)
		noAt(t, n, i, api.ErrNone)
		doubles(t, n, i, api.ErrNone)
		noTake(t, made(t, 0), i, api.ErrNone)
	}
	has(t, n, 0)
	puts(t, n, 1, nth(8))
	has(t, n, 0, nth(8))
}

// TestAt: P18.1: the item at a place, the first, those between, the last one; it stays.
func TestAt(t *testing.T) {
	n := holding(t, 9, many(7)...)
	for range 3 {
		for _, i := range []int{0, 6, 3, 1, 5} {
			if x, e := n.At(i); told(x) != nth(i) || e != api.OK {
				t.Errorf("At(%d): %v, %d", i, told(x), e)
			}
		}
	}
	has(t, n, 0, many(7)...)
}

// TestAtNone: P18.1: where there is no item at the place.
func TestAtNone(t *testing.T) {
	for _, size := range []int{0, 1, 2, 7} {
		n := holding(t, size+1, many(size)...)
		for _, i := range places(size) {
			noAt(t, n, i, api.ErrNone)
		}
		has(t, n, 0, many(size)...)
	}
}

// TestAtIsTaken: P18.1: what stands at a place is what is taken there.
func TestAtIsTaken(t *testing.T) {
	n := holding(t, 99, rightItems()[:40]...)
	for i := range 40 {
		place := 7 * i % n.Len()
		x, e := n.At(place)
		if e != api.OK {
			t.Fatalf("At(%d): %d", place, e)
		}
		takes(t, n, place, told(x))
	}
}
