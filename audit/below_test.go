package audit_test

import (
	"math"
	"testing"

	"rutter/audit"
	"rutter/world"
)

// TestBelow: P21.1: a stamp that is one below the generation, the same, and one above.
func TestBelow(t *testing.T) {
	for _, gen := range edges() {
		for _, x := range []world.Event{entered(1, 7), came(1, 7, 0, 0), came(1, 7, 0, 2)} {
			right(t, delivered(x, 3, gen, gen))
			if gen > math.MinInt {
				right(t, delivered(x, 3, gen, gen-1))
			}
			if gen < math.MaxInt {
				wrong(t, audit.Below, delivered(x, 3, gen, gen+1))
			}
		}
	}
}

// TestBelowOfAny: P21.1: any stamp of any generation: nothing wraps round.
func TestBelowOfAny(t *testing.T) {
	for _, gen := range edges() {
		for _, stamp := range edges() {
			if x := delivered(came(1, 7, 0, 0), 3, gen, stamp); stamp > gen {
				wrong(t, audit.Below, x)
			} else {
				right(t, x)
			}
		}
	}
}

// TestBelowOfWhatIsDelivered: P21.1: what was sent, or dropped, has no stamp that counts.
func TestBelowOfWhatIsDelivered(t *testing.T) {
	for _, x := range []world.Event{sent(entered(1, 7), 2, 3, 1), sent(came(1, 7, 0, 0), 2, 3, 1), entered(1, 7), came(1, 7, 0, 2)} {
		x.Stamp = 2
		right(t, x)
		x.Stamp = math.MaxInt
		right(t, x)
	}
}
