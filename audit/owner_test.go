package audit_test

import (
	"testing"

	"rutter/audit"
	"rutter/world"
)

// TestOwner: P21.1: two that deliver at one port and generation: at the same chassis, at another, at another port, at another generation.
func TestOwner(t *testing.T) {
	for _, of := range []func(chassis, id, port, gen int) world.Event{homes, arrives} {
		first := homes(1, 1, 3, 5)
		right(t, first, of(1, 2, 3, 5))
		wrong(t, audit.Owner, first, of(2, 2, 3, 5))
		right(t, first, of(2, 2, 4, 5))
		right(t, first, of(2, 2, 3, 6))
		right(t, first, of(2, 2, 5, 3))
		first = arrives(1, 1, 3, 5)
		right(t, first, of(1, 2, 3, 5))
		wrong(t, audit.Owner, first, of(2, 2, 3, 5))
		right(t, first, of(2, 2, 4, 5))
		right(t, first, of(2, 2, 3, 4))
	}
}

// TestOwnerAtAnyChassis: P21.1: a chassis is another one or not, whichever numbers both are, 0 and those that are none's, too.
func TestOwnerAtAnyChassis(t *testing.T) {
	for _, n := range edges() {
		for _, m := range edges() {
			if n == m {
				right(t, homes(n, 1, 3, 5), homes(m, 2, 3, 5))
			} else {
				wrong(t, audit.Owner, homes(n, 1, 3, 5), homes(m, 2, 3, 5))
			}
		}
	}
}

// TestOwnerAtAnyPlace: P21.1: a port, and a generation, are other ones or not, whichever numbers they are.
func TestOwnerAtAnyPlace(t *testing.T) {
	for _, port := range edges() {
		for _, gen := range edges() {
			first := homes(1, 1, port, gen)
			for _, p := range edges() {
				for _, g := range edges() {
					if x := homes(2, 2, p, g); p == port && g == gen {
						wrong(t, audit.Owner, first, x)
					} else {
						right(t, first, x)
					}
				}
			}
		}
	}
}

// TestOwnerByTheGen: P21.1: it is the generation by which it was delivered, whatever it was stamped with.
func TestOwnerByTheGen(t *testing.T) {
	for stamp := range 6 {
		wrong(t, audit.Owner, homes(1, 1, 3, 5), delivered(came(2, 2, 9, 9), 3, 5, stamp))
		right(t, homes(1, 1, 3, stamp), delivered(came(2, 2, 9, 9), 3, 6, stamp))
	}
}

// TestOwnerOfThoseThatDeliver: P21.1: what was dropped, or sent, at another chassis hinders nothing.
func TestOwnerOfThoseThatDeliver(t *testing.T) {
	for _, x := range []world.Event{sent(entered(1, 1), 2, 3, 5), sent(came(1, 1, 0, 0), 2, 3, 5)} {
		right(t, x, homes(2, 2, 3, 5))
		right(t, homes(2, 2, 3, 5), x)
		for _, done := range noDeeds() {
			x.Done = done
			right(t, x, homes(2, 2, 3, 5), x)
		}
	}
}

// TestOwnerOfMany: P21.1: of many that deliver each one counts, wherever it stands ahead.
func TestOwnerOfMany(t *testing.T) {
	var l []world.Event
	for i := range 200 {
		l = append(l, arrives(i%7, i, 3+i%4, i%7*4+i%4))
	}
	right(t, l...)
	for i, x := range l {
		right(t, append(l, arrives(x.Chassis, 1000, x.Port, x.Gen))...)
		x.Chassis, x.ID = (x.Chassis+1+i%6)%7, 1000
		wrong(t, audit.Owner, append(l, x)...)
	}
}
