package audit_test

import (
	"testing"

	"rutter/api"
	"rutter/audit"
	"rutter/world"
)

// TestAgain: P21.1: what came of each kind, and is sent to its chassis, to its origin, to where it came from, or to none of them.
func TestAgain(t *testing.T) {
	for _, x := range []struct {
		to   int
		back bool
	}{{0, true}, {1, true}, {2, false}, {3, false}, {-1, false}, {16, false}} {
		if l := sent(came(1, 7, 0, 0), x.to, 3, 1); x.back {
			wrong(t, audit.Again, l)
		} else {
			right(t, l)
		}
	}
	for to := -1; to <= 16; to++ {
		// What was forwarded is not sent, wherever to.
		wrong(t, audit.Again, sent(came(1, 7, 0, 2), to, 3, 1))
	}
}

// TestAgainOfAGuest: P21.1: a guest's frame goes to another chassis than its own, whatever the kind that it tells.
func TestAgainOfAGuest(t *testing.T) {
	for _, kind := range kinds() {
		for _, n := range edges() {
			for _, to := range edges() {
				x := sent(entered(n, 7), to, 3, 1)
				if x.Kind = kind; to == n {
					wrong(t, audit.Again, x)
				} else {
					right(t, x)
				}
			}
		}
	}
}

// TestAgainOfAny: P21.1: a packet that is right but for where it is sent to: of any numbers.
func TestAgainOfAny(t *testing.T) {
	for _, n := range edges() {
		for _, origin := range edges() {
			for _, to := range edges() {
				if origin == n {
					continue
				}
				if x := sent(came(n, 7, origin, origin), to, 3, 1); to == n || to == origin {
					wrong(t, audit.Again, x)
				} else {
					right(t, x)
				}
				if from := origin ^ 1; from != n {
					wrong(t, audit.Again, sent(came(n, 7, origin, from), to, 3, 1))
				}
			}
		}
	}
}

// TestAgainIsSent: P21.1: what is delivered, or dropped, goes nowhere, whatever To it tells, and of whichever kind it is.
func TestAgainIsSent(t *testing.T) {
	for _, done := range append(noDeeds(), 1) {
		for _, x := range []world.Event{entered(1, 7), came(1, 7, 0, 0), came(1, 7, 0, 2)} {
			for to := range 4 {
				x.Done, x.To = done, to
				right(t, x)
			}
		}
	}
}

// TestAgainIsNoMatterOfOthers: P21.1: what others sent, or delivered, ahead is nothing to where something goes: it may be sent more than once, and by elder generations.
func TestAgainIsNoMatterOfOthers(t *testing.T) {
	x := sent(came(1, 7, 0, 0), 2, 3, 1)
	right(t, x, x, sent(entered(0, 7), 1, 3, 1), x, homes(2, 7, 3, 1), sent(came(2, 7, 0, 0), 1, 3, 1), x)
	wrong(t, audit.Again, x, homes(2, 7, 3, 1), changed(x, func(x *world.Event) { x.Kind, x.From = api.Forward, 5 }))
}

// TestAgainOfEachKind: P21.1: a packet of each kind, that came straight or around, and is sent to each of the chassis it knows, or to another one: of a kind that doesn't fit its way it is wrong by that, ahead of where it goes.
func TestAgainOfEachKind(t *testing.T) {
	for _, kind := range kinds() {
		for _, from := range []int{0, 2} {
			fits := kind == api.Normal && from == 0 || kind == api.Forward && from == 2
			for _, to := range []int{0, 1, 2, 3, 15} {
				x := sent(came(1, 7, 0, from), to, 3, 1)
				switch x.Kind = kind; {
				case !fits:
					wrong(t, audit.Round, x)
				case kind == api.Forward || to == 0 || to == 1:
					wrong(t, audit.Again, x)
				default:
					right(t, x)
				}
			}
		}
	}
}
