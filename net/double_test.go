package net_test

import (
	"testing"

	"rutter/api"
)

// TestDouble: P18.1: one more like the item at a place, the first, one between, the last one, behind all others.
func TestDouble(t *testing.T) {
	for size := 1; size < 9; size++ {
		for i := range size {
			n := holding(t, 20, many(size)...)
			doubles(t, n, i, api.OK)
			has(t, n, 0, append(many(size), nth(i))...)
			doubles(t, n, i, api.OK)
			doubles(t, n, size, api.OK)
			has(t, n, 0, append(many(size), nth(i), nth(i), nth(i))...)
		}
	}
}

// TestDoubleWhole: P18.2: what was doubled is as it was put, and both are, whatever may be.
func TestDoubleWhole(t *testing.T) {
	for _, x := range rightItems() {
		n := holding(t, 2, x)
		doubles(t, n, 0, api.OK)
		has(t, n, 0, x, x)
		takes(t, n, 0, x)
		has(t, n, 0, x)
		takes(t, n, 0, x)
	}
}

// TestDoubleAmong: P18.1: what is put behind one that was doubled stands behind it.
func TestDoubleAmong(t *testing.T) {
	n := holding(t, 9, many(3)...)
	doubles(t, n, 1, api.OK)
	puts(t, n, 2, nth(5), nth(6))
	doubles(t, n, 4, api.OK)
	has(t, n, 0, nth(0), nth(1), nth(2), nth(1), nth(5), nth(6), nth(5))
	takes(t, n, 1, nth(1))
	has(t, n, 0, nth(0), nth(2), nth(1), nth(5), nth(6), nth(5))
	takes(t, n, 2, nth(1))
	has(t, n, 0, nth(0), nth(2), nth(5), nth(6), nth(5))
}

// TestDoubleFull: P18.1: without room ErrFull, of whatever place; nothing is lost, and all is as it was. Behind a Take there is room.
func TestDoubleFull(t *testing.T) {
	for _, room := range []int{1, 2, 3, 8, 4096} {
		n := holding(t, room, many(room)...)
		for _, i := range []int{0, room / 2, room - 1} {
			doubles(t, n, i, api.ErrFull)
		}
		has(t, n, 0, many(room)...)
		puts(t, n, 0, nth(1))
		doubles(t, n, room-1, api.ErrFull)
		has(t, n, 1, many(room)...)
		takes(t, n, 0, nth(0))
		puts(t, n, 1, nth(9))
		doubles(t, n, room-1, api.ErrFull)
		takes(t, n, room-1, nth(9))
		if room > 1 {
			doubles(t, n, 0, api.OK)
			has(t, n, 1, append(many(room)[1:], nth(1))...)
			doubles(t, n, 0, api.ErrFull)
		}
	}
}

// TestDoubleFills: P18.1: one item, doubled until there is no room.
func TestDoubleFills(t *testing.T) {
	n, l := holding(t, 4096, nth(7)), []one{nth(7)}
	for i := range 4095 {
		doubles(t, n, i/2, api.OK)
		l = append(l, nth(7))
	}
	doubles(t, n, 4095, api.ErrFull)
	has(t, n, 0, l...)
}

// TestDoubleNone: P18.1: where there is no item at the place: ErrNone, also without room, and nothing is done.
func TestDoubleNone(t *testing.T) {
	for _, size := range []int{0, 1, 2, 7} {
		for _, room := range []int{size, size + 1, 4096} {
			n := holding(t, room, many(size)...)
			for _, i := range places(size) {
				doubles(t, n, i, api.ErrNone)
			}
			has(t, n, 0, many(size)...)
		}
	}
}
