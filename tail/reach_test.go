package tail_test

import (
	"slices"
	"testing"

	"rutter/api"
	"rutter/tail"
	"rutter/world"
)

// arrived checks of what happened, from an event on, that each of what was injected was delivered once, at its row's owner, port and generation, and nothing else.
func arrived(t testing.TB, w *world.World, from int, want map[int]api.Row) {
	t.Helper()
	seen := map[int]bool{}
	for _, x := range w.Events()[from:] {
		if x.What != 1 && x.What != 2 || x.Done != 1 {
			continue
		}
		r, ok := want[x.ID]
		if !ok || seen[x.ID] || x.Chassis != r.Owner || x.Port != r.Port || x.Gen != r.Gen {
			t.Fatalf("P22.3: %+v; of %+v, delivered ahead: %v", x, r, seen[x.ID])
		}
		seen[x.ID] = true
	}
	for id, r := range want {
		if !seen[id] {
			t.Fatalf("P22.3: %d, to %+v, is not delivered, of %s", id, r, look(w))
		}
	}
}

// reaches checks P22.3 of a settled world: what is injected at each member to the address of each row that is bound is delivered at its owner, once, behind a round, lost or not. It tells how many of these there were.
func reaches(t testing.TB, c *chance, w *world.World, lost bool) int {
	t.Helper()
	if !tail.Settled(w) {
		t.Fatalf("it is not settled: %s", look(w))
	}
	want, from := map[int]api.Row{}, len(w.Events())
	for _, n := range w.Ctl().Chassis() {
		for _, r := range w.Ctl().Rows() {
			if r.Phase == api.Bound {
				want[sends(t, w, n, c.frameTo(r.MAC))] = r
			}
		}
	}
	_, e := tail.Round(w, lost)
	ok(t, e)
	arrived(t, w, from, want)
	if !tail.Settled(w) {
		t.Fatalf("it is not settled any more: %s", look(w))
	}
	return len(want)
}

// TestReached: P22.3: in an ordinary world, at the owner of a port itself, and elsewhere, lost or not, again and again.
func TestReached(t *testing.T) {
	c, w := chance(1), town(t)
	for i := range 20 {
		if n := reaches(t, &c, w, i%2 == 0); n != 8 {
			t.Errorf("%d were injected", n)
		}
	}
}

// TestReachedBehindMoves: P22.3: wherever a port moved to, by a guest that awoke, by a Commit, and by an end of its time, and back.
func TestReachedBehindMoves(t *testing.T) {
	c, w := chance(2), town(t)
	for i := range 60 {
		r := row(w, 3)
		to := (r.Owner + 1 + i%3) % 4
		does(t, w, asks(api.Start, 3, to))
		if i%3 != 2 {
			talks(t, w, 2, 0, 1, 2, 3)
		}
		moves := true
		switch i % 4 {
		case 0:
			does(t, w, asks(api.Commit, 3, 0))
		case 1:
			sends(t, w, to, announces(3))
			moves = i%3 != 2
		case 2:
			moves = false
		case 3:
			does(t, w, asks(api.Commit, 3, 0), asks(api.Commit, 3, 0))
		}
		_, e := tail.Run(w, tail.Bound(span, i%5), i%5)
		ok(t, e)
		want := r.Owner
		if moves {
			want = to
		}
		if got := row(w, 3); got.Owner != want || got.Phase != api.Bound {
			t.Fatalf("move %d: %+v; was %+v", i, got, r)
		}
		reaches(t, &c, w, i%2 == 0)
	}
}

// TestReachedAtOnce: P22.3: at the owner itself it is delivered at once, and elsewhere in the round.
func TestReachedAtOnce(t *testing.T) {
	for n := range 4 {
		for _, lost := range []bool{false, true} {
			w := town(t)
			id := sends(t, w, n, plainFrame(3))
			if l := delivered(w, id); len(l) > 0 != (n == 1) {
				t.Errorf("%d: delivered at %d", n, l)
			}
			_, e := tail.Round(w, lost)
			ok(t, e)
			if l := delivered(w, id); !slices.Equal(l, []int{1}) {
				t.Errorf("%d: delivered at %d", n, l)
			}
		}
	}
}

// TestReachedOfAllAddresses: P22.3: addresses at their edges, of many's, and such as another port's usual one.
func TestReachedOfAllAddresses(t *testing.T) {
	c, w := chance(3), made(t, span, 0, 5, 15)
	for i, mac := range []uint64{0, 1, 1 << 40, api.MaxMAC, mac(9), 1 << 47} {
		does(t, w, api.Call{Op: api.AddPort, Port: i * 6, Chassis: []int{0, 5, 15}[i%3], MAC: mac})
	}
	_, e := tail.Run(w, 200, 0)
	ok(t, e)
	for i := range 10 {
		if n := reaches(t, &c, w, i%2 == 0); n != 18 {
			t.Errorf("%d were injected", n)
		}
	}
}

// TestReachedOfAddressesThatWentOn: P22.3: an address whose port is gone, and that another port has, is this one's; and of a port that is bound again anew its later generation delivers.
func TestReachedOfAddressesThatWentOn(t *testing.T) {
	c, w := chance(4), town(t)
	does(t, w, asks(api.RemovePort, 3, 0), api.Call{Op: api.AddPort, Port: 9, Chassis: 0, MAC: mac(3)}, asks(api.RemovePort, 4, 0), asks(api.AddPort, 4, 3))
	_, e := tail.Run(w, 200, 2)
	ok(t, e)
	if n := reaches(t, &c, w, false); n != 8 || row(w, 4).Gen != 2 {
		t.Errorf("%d were injected: %s", n, look(w))
	}
}

// TestOthersAreNotReached: P22.3: what goes to an address that no row has is delivered nowhere.
func TestOthersAreNotReached(t *testing.T) {
	w := town(t)
	does(t, w, asks(api.RemovePort, 4, 0))
	_, e := tail.Run(w, 200, 0)
	ok(t, e)
	from := len(w.Events())
	for n := range 4 {
		sends(t, w, n, plainFrame(4))
		sends(t, w, n, plainFrame(5))
	}
	_, e = tail.Round(w, false)
	ok(t, e)
	arrived(t, w, from, map[int]api.Row{})
}
