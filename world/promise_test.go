package world_test

import (
	"testing"

	"rutter/api"
)

// TestDoubledIsDeliveredAgain: P19.3, example 8: what was injected is delivered once, and once more for each time that it was doubled, also on its way.
func TestDoubledIsDeliveredAgain(t *testing.T) {
	for ahead := range 4 {
		for onward := range 4 {
			w := leaving(t)
			x := watchOf(w)
			allCome(t, w)
			tells(t, w, 1, 2)
			x.looks(t)
			sends(t, w, 0, plainFrame(mac(3)))
			for range ahead {
				x.does(t, deed{kind: doubles})
			}
			for range 1 + ahead {
				x.does(t, deed{kind: lands})
			}
			for range onward {
				x.does(t, deed{kind: doubles})
			}
			for w.Len() > 0 {
				x.does(t, deed{kind: lands})
			}
			if n := x.delivered[2]; n != 1+ahead+onward || x.doubled[2] != ahead+onward {
				t.Errorf("doubled %d and %d times: delivered %d times", ahead, onward, n)
			}
		}
	}
}

// TestOnceWhereItIs: P19.3: what is not doubled is delivered once, at home, and elsewhere; what was lost, or dropped, is not.
func TestOnceWhereItIs(t *testing.T) {
	w := town(t)
	x := watchOf(w)
	for n := range 4 {
		x.does(t, deed{kind: guests, who: n, f: plainFrame(mac(3))})
		x.does(t, deed{kind: guests, who: n, f: plainFrame(mac(3))})
	}
	for range 3 {
		x.does(t, deed{kind: lands, n: 1})
		x.does(t, deed{kind: vanishes, n: 0})
	}
	want := map[int]int{3: 1, 4: 1, 2: 1, 6: 1, 8: 1}
	for id := 1; id <= 8; id++ {
		if n := x.delivered[id]; n != want[id] {
			t.Errorf("%d was delivered %d times; want %d", id, n, want[id])
		}
	}
}

// TestOverThree: P19.4: a port that goes from 1 to 2, and on to 3, by rows of each age: what is sent goes over three chassis at most, each another one.
func TestOverThree(t *testing.T) {
	for mask := range 1 << 8 {
		w := town(t)
		x := watchOf(w)
		for i, to := range []int{2, 3} {
			x.does(t, deed{kind: calls, x: asks(api.Start, 3, to)})
			x.does(t, deed{kind: calls, x: asks(api.Commit, 3, 0)})
			for n := range 4 {
				if mask>>(4*i+n)&1 == 1 {
					tells(t, w, n)
				}
			}
			x.looks(t)
			for n := range 4 {
				x.does(t, deed{kind: guests, who: n, f: plainFrame(mac(3))})
			}
			for w.Len() > 0 {
				x.does(t, deed{kind: lands})
			}
			x.does(t, deed{kind: calls, x: asks(api.Commit, 3, 0)})
		}
	}
}

// TestNeverAhead: P19.5, T4: what was done halfway is told to nobody till it is there behind a start; what wasn't kept never was.
func TestNeverAhead(t *testing.T) {
	for _, keep := range keeps(rowRoom) {
		w := town(t)
		x := watchOf(w)
		x.does(t, deed{kind: breaks, x: asks(api.Start, 3, 2), n: keep})
		for range 9 {
			for n := range 4 {
				x.does(t, deed{kind: goes, who: n})
			}
			for w.Len() > 0 {
				x.does(t, deed{kind: lands})
			}
			for n := range 4 {
				knows(t, w, n, bound(3, 1, 1, 1), bound(4, 2, 1, 1))
			}
		}
		x.does(t, deed{kind: rises, who: nobody})
		rounds(t, w, 4)
		x.looks(t)
		want := bound(3, 1, 1, 1)
		if keep >= rowRoom {
			want = moving(3, 1, 2, 1, 2)
		}
		for n := range 4 {
			knows(t, w, n, want, bound(4, 2, 1, 1))
		}
	}
}

// TestOneOwner: P19.2: along moves to and fro, of which each is told to some alone, each generation has one owner, who is told it or not.
func TestOneOwner(t *testing.T) {
	w := town(t)
	x := watchOf(w)
	c := chance(2)
	at := 1
	for i := range 60 {
		to := (at + 1 + c.below(3)) % 4
		for _, op := range []api.Op{api.Start, api.Commit, api.Commit} {
			x.does(t, deed{kind: calls, x: asks(op, 3, to)})
			if c.below(3) == 0 {
				x.does(t, deed{kind: falls, who: nobody})
				x.does(t, deed{kind: rises, who: nobody})
			}
			tells(t, w, c.below(4), c.below(4))
			x.looks(t)
			steps(t, w, 0, 1, 2, 3)
			allCome(t, w)
			x.looks(t)
		}
		at = to
		if r := row(w.Ctl(), 3); r.Owner != at || r.Gen != 2+i {
			t.Fatalf("move %d: %+v; want at %d", i, r, at)
		}
	}
	if len(x.owner) < 30 {
		t.Errorf("too few generations were told: %d", len(x.owner))
	}
}
