package net_test

import (
	"testing"

	"rutter/api"
	"rutter/net"
)

// fits checks that there is room for so many more items, and for no more than these; what was lost ahead is told. It has them then.
func fits(t *testing.T, n *net.Net, lost, more int) {
	t.Helper()
	l := lists(n)
	puts(t, n, more, many(more)...)
	has(t, n, lost, append(l, many(more)...)...)
	puts(t, n, 0, nth(1))
	puts(t, n, 0, nth(2), nth(3))
	has(t, n, lost+3, append(l, many(more)...)...)
}

// TestNew: P18.1: an empty net, with just so much room.
func TestNew(t *testing.T) {
	for _, room := range []int{0, 1, 2, 3, 15, 16, 17, 255, 256, 257, 1023, 1024, 4094, 4095, 4096} {
		n := made(t, room)
		has(t, n, 0)
		fits(t, n, 0, room)
	}
}

// TestNewWrong: P18.1: rooms that can't be; there is no net beside an error.
func TestNewWrong(t *testing.T) {
	for _, room := range append(beyond(0, 4096), -4096, -4097, 8192, 65536) {
		if n, e := net.New(room); n != nil || e != api.ErrArg {
			t.Errorf("New(%d): %v, %d; want none, %d", room, n, e, api.ErrArg)
		}
	}
}

// TestTwoNets: P18.1, P2: what one has, and has lost, another one hasn't.
func TestTwoNets(t *testing.T) {
	a, b := made(t, 2), made(t, 3)
	puts(t, a, 2, many(5)...)
	has(t, b, 0)
	puts(t, b, 1, nth(7))
	has(t, a, 3, nth(0), nth(1))
	doubles(t, b, 0, api.OK)
	takes(t, a, 0, nth(0))
	has(t, a, 3, nth(1))
	has(t, b, 0, nth(7), nth(7))
	fits(t, a, 3, 1)
	fits(t, b, 0, 1)
}
