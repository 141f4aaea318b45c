package net_test

import (
	"slices"
	"testing"

	"rutter/api"
)

// TestPut: P18.1: none, one, several at once: in order, each behind all others, and how many came in.
func TestPut(t *testing.T) {
	n := made(t, 9)
	puts(t, n, 0)
	has(t, n, 0)
	puts(t, n, 1, nth(0))
	has(t, n, 0, nth(0))
	puts(t, n, 3, nth(1), nth(2), nth(3))
	has(t, n, 0, many(4)...)
	puts(t, n, 0)
	puts(t, n, 2, nth(4), nth(5))
	puts(t, n, 1, nth(6))
	has(t, n, 0, many(7)...)
	if got := n.Put(nil...); got != 0 {
		t.Errorf("none: %d", got)
	}
	has(t, n, 0, many(7)...)
}

// TestPutSame: P18.1: items that are the same, as often as they are put, and such as others are.
func TestPutSame(t *testing.T) {
	n := made(t, 9)
	puts(t, n, 2, nth(3), nth(3))
	puts(t, n, 1, nth(4))
	puts(t, n, 1, nth(3))
	has(t, n, 0, nth(3), nth(3), nth(4), nth(3))
}

// TestPutRight: P18.1: items that may be come in, each alone, and all at once.
func TestPutRight(t *testing.T) {
	all := made(t, 4096)
	for _, x := range rightItems() {
		n := made(t, 1)
		puts(t, n, 1, x)
		has(t, n, 0, x)
	}
	puts(t, all, len(rightItems()), rightItems()...)
	has(t, all, 0, rightItems()...)
}

// TestPutWrong: P18.1: items that may not be are lost, each alone, and all at once, whether there is room or not.
func TestPutWrong(t *testing.T) {
	all := made(t, 4096)
	for _, x := range wrongItems() {
		n := made(t, 2)
		puts(t, n, 0, x)
		has(t, n, 1)
		puts(t, n, 2, many(2)...)
		puts(t, n, 0, x)
		has(t, n, 2, many(2)...)
	}
	puts(t, all, 0, wrongItems()...)
	has(t, all, len(wrongItems()))
	fits(t, all, len(wrongItems()), 4096)
}

// TestPutAmong: P18.1: of several in one call those come in that may be, whatever stands ahead of them, and behind.
func TestPutAmong(t *testing.T) {
	for _, wrong := range wrongItems() {
		n := made(t, 4)
		puts(t, n, 2, wrong, nth(0), wrong, wrong, nth(1), wrong)
		has(t, n, 4, nth(0), nth(1))
		puts(t, n, 1, nth(2), wrong)
		puts(t, n, 1, wrong, nth(3))
		has(t, n, 6, many(4)...)
	}
}

// TestPutFull: P18.1: of several in one call those come in for which there is room; one that may not be takes none.
func TestPutFull(t *testing.T) {
	for room := range 6 {
		wrong, n := wrongItems()[room], made(t, room)
		l := []one{wrong}
		for _, x := range many(5) {
			l = append(l, x, wrong)
		}
		puts(t, n, room, l...)
		has(t, n, len(l)-room, many(room)...)
		puts(t, n, 0, l...)
		has(t, n, 2*len(l)-room, many(room)...)
	}
}

// TestPutNoRoom: P18.1: to a net without room nothing comes.
func TestPutNoRoom(t *testing.T) {
	n := made(t, 0)
	puts(t, n, 0)
	has(t, n, 0)
	puts(t, n, 0, one{})
	puts(t, n, 0, nth(1))
	puts(t, n, 0, wrongItems()[0], nth(1), nth(2))
	has(t, n, 5)
}

// TestRoomAgain: P18.1: a net that is full has room again behind a Take, wherever that was, for as many as were taken.
func TestRoomAgain(t *testing.T) {
	for room := 1; room < 9; room++ {
		for i := range room {
			n := holding(t, room, many(room)...)
			l := many(room)
			puts(t, n, 0, nth(20))
			takes(t, n, i, nth(i))
			puts(t, n, 1, nth(30), nth(31))
			l = append(slices.Delete(l, i, i+1), nth(30))
			has(t, n, 2, l...)
			puts(t, n, 0, nth(32))
			has(t, n, 3, l...)
		}
	}
}

// TestPutMost: P18.1: as many as there may be, in one call, one by one, and again behind the last one that was taken.
func TestPutMost(t *testing.T) {
	n := made(t, 4096)
	puts(t, n, 4096, many(5000)...)
	has(t, n, 904, many(4096)...)
	puts(t, n, 0, many(5000)...)
	has(t, n, 5904, many(4096)...)
	for i := range 4096 {
		takes(t, n, 0, nth(i))
		puts(t, n, 1, nth(5000+i))
	}
	puts(t, n, 0, nth(1))
	for i := range 4096 {
		takes(t, n, n.Len()-1, nth(5000+4095-i))
	}
	has(t, n, 5905)
	fits(t, n, 5905, 4096)
}

// TestLost: P18.1: how many were lost, behind each call: as many as did not come in, and none by any other call.
func TestLost(t *testing.T) {
	n, wrong := made(t, 3), wrongItems()
	lost := func(want int) {
		t.Helper()
		if got := n.Lost(); got != want {
			t.Errorf("%d; want %d", got, want)
		}
	}
	lost(0)
	puts(t, n, 2, many(2)...)
	lost(0)
	puts(t, n, 0, wrong[0])
	lost(1)
	puts(t, n, 1, wrong[1], nth(5), nth(6), wrong[2], nth(7))
	lost(5)
	for _, i := range []int{-1, 0, 2, 3} {
		n.Double(i)
		n.At(i)
		n.Find(i, i)
		lost(5)
	}
	noTake(t, n, 3, api.ErrNone)
	lost(5)
	takes(t, n, 1, nth(1))
	doubles(t, n, 0, api.OK)
	lost(5)
	puts(t, n, 0, many(100)...)
	lost(105)
	takes(t, n, 0, nth(0))
	takes(t, n, 0, nth(5))
	takes(t, n, 0, nth(0))
	noTake(t, n, 0, api.ErrNone)
	lost(105)
	puts(t, n, 3, many(3)...)
	lost(105)
}
