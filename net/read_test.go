package net_test

import (
	"testing"

	"rutter/api"
	"rutter/net"
)

// TestFind: P18.1: the first place of an item of a kind and a chassis, of which there are none, one, several.
func TestFind(t *testing.T) {
	l := []one{{2, 5, "a"}, {0, 5, "b"}, {1, 4, "c"}, {2, 4, "d"}, {1, 4, "e"}, {2, 5, "f"}, {0, 0, ""}, {2, 15, "g"}, {1, 4, "h"}}
	n := holding(t, 9, l...)
	finds(t, n, 2, 5, 0)
	finds(t, n, 0, 5, 1)
	finds(t, n, 1, 4, 2)
	finds(t, n, 2, 4, 3)
	finds(t, n, 0, 0, 6)
	finds(t, n, 2, 15, 7)
	for _, x := range [][2]int{{1, 5}, {0, 4}, {1, 0}, {2, 0}, {0, 15}, {1, 15}, {4, 1}, {5, 2}, {0, 2}, {2, 1}} {
		finds(t, n, x[0], x[1], -1)
	}
	has(t, n, 0, l...)
}

// TestFindNothing: P18.1: there is none of a kind, or a chassis, that there can't be, nor any in an empty net.
func TestFindNothing(t *testing.T) {
	full, empty := holding(t, 48, rightItems()[5:53]...), made(t, 9)
	for _, kind := range beyond(0, 2) {
		for chassis := range 16 {
			finds(t, full, kind, chassis, -1)
		}
		for _, chassis := range beyond(0, 15) {
			finds(t, full, kind, chassis, -1)
			finds(t, empty, kind, chassis, -1)
		}
	}
	for kind := range 3 {
		for _, chassis := range beyond(0, 15) {
			finds(t, full, kind, chassis, -1)
		}
		for chassis := range 16 {
			finds(t, full, kind, chassis, 16*kind+chassis)
			finds(t, empty, kind, chassis, -1)
		}
	}
}

// TestFindBehind: P18.1: the first place behind each call: what was taken isn't found any more, what was doubled or put behind is.
func TestFindBehind(t *testing.T) {
	a, b, c := one{0, 3, "a"}, one{1, 3, "b"}, one{0, 3, "c"}
	n := holding(t, 4, a, b, c)
	finds(t, n, 0, 3, 0)
	doubles(t, n, 1, api.OK)
	finds(t, n, 1, 3, 1)
	takes(t, n, 0, a)
	finds(t, n, 0, 3, 1)
	finds(t, n, 1, 3, 0)
	takes(t, n, 0, b)
	finds(t, n, 0, 3, 0)
	finds(t, n, 1, 3, 1)
	takes(t, n, 0, c)
	finds(t, n, 0, 3, -1)
	puts(t, n, 2, one{0, 16, "wrong"}, a, c)
	finds(t, n, 0, 3, 1)
	finds(t, n, 0, 16, -1)
	takes(t, n, n.Find(0, 3), a)
	takes(t, n, n.Find(0, 3), c)
	takes(t, n, n.Find(1, 3), b)
	noTake(t, n, n.Find(1, 3), api.ErrNone)
}

// TestLen: P18.1: how many there are, behind each call.
func TestLen(t *testing.T) {
	n := made(t, 3)
	long := func(want int) {
		t.Helper()
		if got := n.Len(); got != want {
			t.Errorf("%d; want %d", got, want)
		}
	}
	long(0)
	puts(t, n, 1, nth(0))
	long(1)
	puts(t, n, 0, wrongItems()[0])
	long(1)
	doubles(t, n, 0, api.OK)
	long(2)
	puts(t, n, 1, many(5)...)
	long(3)
	doubles(t, n, 0, api.ErrFull)
	noTake(t, n, 3, api.ErrNone)
	noAt(t, n, 3, api.ErrNone)
	long(3)
	n.At(2)
	n.Find(0, 0)
	long(3)
	takes(t, n, 2, nth(0))
	long(2)
	takes(t, n, 0, nth(0))
	takes(t, n, 0, nth(0))
	long(0)
}

// TestNil: P18.1, P1: a nil net answers ErrArg, -1, 0, whatever it is given.
func TestNil(t *testing.T) {
	var n *net.Net
	for range 2 {
		for _, i := range append(places(0), 0, 1, 2, 15) {
			noTake(t, n, i, api.ErrArg)
			noAt(t, n, i, api.ErrArg)
			doubles(t, n, i, api.ErrArg)
			finds(t, n, i, 3, -1)
			finds(t, n, 1, i, -1)
		}
		puts(t, n, 0)
		puts(t, n, 0, nth(1))
		puts(t, n, 0, rightItems()...)
		puts(t, n, 0, wrongItems()...)
		if n.Len() != 0 || n.Lost() != 0 {
			t.Errorf("%d, %d lost", n.Len(), n.Lost())
		}
	}
}
