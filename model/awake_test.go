package model_test

import (
	"math"
	"testing"

	"rutter/api"
	"rutter/model"
)

// asleep checks that nobody is awake there, and that nothing is changed.
func asleep(t testing.TB, m *model.Model, by, port, ver int) {
	t.Helper()
	was := m.Rows()
	if m.Awake(by, port, ver) {
		t.Errorf("Awake at %d of port %d, of version %d", by, port, ver)
	}
	has(t, m, was...)
}

// TestAwake: P20.1: of a moving port, at its target, for its version: the row is moved then, since NOW; and not again.
func TestAwake(t *testing.T) {
	for _, now := range []int{noon, noon + 1, noon + span - 1} {
		m := each(t)
		ticks(t, m, now)
		if !m.Awake(1, 2, 2) {
			t.Fatalf("at %d: false", now)
		}
		has(t, m, bound(1, 0, 1, 1), at(now, moved(2, 1, 0, 2, 3)), moved(3, 2, 0, 2, 3), gone(4, 1, 2))
		are(t, m, 0, 1, 2, 3)
		for ver := range 5 {
			asleep(t, m, 1, 2, ver)
		}
		becomes(t, m, asks(api.Commit, 2, 0), at(now, bound(2, 1, 2, 4)))
	}
}

// TestAwakeElsewhere: P20.1: at a chassis that isn't the target, there or not, or that can't be, nobody is awake.
func TestAwakeElsewhere(t *testing.T) {
	m := each(t)
	for _, n := range append(wrongChassis(), 0, 2, 3, 4, 9, 15) {
		for ver := range 5 {
			asleep(t, m, n, 2, ver)
		}
	}
}

// TestAwakeOfAnotherVersion: P20.1: of an elder version, and of a later one, nobody is awake: not of the move ahead either.
func TestAwakeOfAnotherVersion(t *testing.T) {
	m := each(t)
	for _, ver := range []int{math.MinInt, -1, 0, 1, 3, 4, 258, 1<<32 + 2, 1 << 40, 1<<40 + 1, math.MaxInt} {
		asleep(t, m, 1, 2, ver)
	}
	does(t, m, asks(api.Abort, 2, 0), bound(2, 0, 1, 3))
	asleep(t, m, 1, 2, 2)
	asleep(t, m, 1, 2, 3)
	does(t, m, asks(api.Start, 2, 1), moving(2, 0, 1, 1, 4))
	for _, ver := range []int{1, 2, 3, 5} {
		asleep(t, m, 1, 2, ver)
	}
	if !m.Awake(1, 2, 4) {
		t.Error("of its version")
	}
	has(t, m, bound(1, 0, 1, 1), moved(2, 1, 0, 2, 5), moved(3, 2, 0, 2, 3), gone(4, 1, 2))
}

// TestAwakeOfOthers: P20.1: a port that is bound, moved, or gone, one that has no row, and one that can't be: nobody is awake.
func TestAwakeOfOthers(t *testing.T) {
	m := each(t)
	for _, port := range append(wrongPorts(), 0, 1, 3, 4, 5, 31) {
		for _, by := range []int{-1, 0, 1, 2, 3, 16} {
			for ver := range 5 {
				asleep(t, m, by, port, ver)
			}
		}
	}
}

// TestAwakeTooLate: P20.1: a move that was late goes back; then nobody is awake.
func TestAwakeTooLate(t *testing.T) {
	m := each(t)
	ticks(t, m, noon+span)
	for ver := range 5 {
		asleep(t, m, 1, 2, ver)
	}
}
