package tail_test

import (
	"slices"
	"testing"

	"rutter/api"
	"rutter/control"
	"rutter/session"
	"rutter/tail"
	"rutter/world"
)

// TestSettledOfNew: P22.1: a nil world is not settled; a new one is, as long as its controller is up, whoever else is, and is no member.
func TestSettledOfNew(t *testing.T) {
	if tail.Settled(nil) {
		t.Error("a nil world is settled")
	}
	w := made(t, span)
	settled(t, w, true)
	starts(t, w, 0, 15)
	settled(t, w, true)
	crashes(t, w, nobody)
	settled(t, w, false)
	starts(t, w, nobody)
	settled(t, w, true)
}

// onlyThat checks that a world is not settled, and all of it is as it should be but what is said: so many members' agents are not up, have not the controller's rows, and are not idle; for so many the controller is not idle; so many rows are on their way, and so many items.
func onlyThat(t testing.TB, w *world.World, down, others, busy, untold, moving, under int) {
	t.Helper()
	c := w.Ctl()
	if c == nil {
		t.Fatal("the controller is down")
	}
	var got [5]int
	for _, n := range c.Chassis() {
		for i, wrong := range []bool{w.Agent(n) == nil, !slices.Equal(w.Agent(n).Rows(), c.Rows()), !w.Agent(n).Idle(), !c.Idle(n)} {
			if wrong {
				got[i]++
			}
		}
	}
	for _, r := range c.Rows() {
		if r.Phase == api.Moving || r.Phase == api.Moved {
			got[4]++
		}
	}
	if want := [5]int{down, others, busy, untold, moving}; got != want || w.Len() != under {
		t.Fatalf("%d, %d under way; want %d, %d: %s", got, w.Len(), want, under, look(w))
	}
	settled(t, w, got == [5]int{} && under == 0)
}

// TestSettledByController: P22.1: the controller is down, and that alone.
func TestSettledByController(t *testing.T) {
	w := town(t)
	crashes(t, w, nobody)
	settled(t, w, false)
}

// TestSettledByRows: P22.1: a row that is moving, or moved, which all have heard of; when it is bound, or gone, all is still again.
func TestSettledByRows(t *testing.T) {
	w := town(t)
	for _, x := range []struct {
		op     api.Op
		moving int
	}{{api.Start, 1}, {api.Abort, 0}, {api.Start, 1}, {api.Commit, 1}, {api.Commit, 0}, {api.RemovePort, 0}, {api.AddPort, 0}} {
		does(t, w, asks(x.op, 3, 2))
		settled(t, w, false)
		talks(t, w, 4, 0, 1, 2, 3)
		onlyThat(t, w, 0, 0, 0, 0, x.moving, 0)
	}
}

// TestSettledByOneOfManyRows: P22.1: the first row, and the last one, of all ports.
func TestSettledByOneOfManyRows(t *testing.T) {
	w := town(t)
	for port := range 32 {
		if row(w, port).Ver == 0 {
			does(t, w, asks(api.AddPort, port, 1))
		}
	}
	talks(t, w, 9, 0, 1, 2, 3)
	settled(t, w, true)
	for _, port := range []int{0, 17, 31} {
		does(t, w, asks(api.Start, port, 2))
		talks(t, w, 4, 0, 1, 2, 3)
		onlyThat(t, w, 0, 0, 0, 0, 1, 0)
		does(t, w, asks(api.Abort, port, 0))
		talks(t, w, 4, 0, 1, 2, 3)
		settled(t, w, true)
	}
}

// TestSettledByNet: P22.1: a letter up, one down, and data, each alone; also of one that is no member, and of none that is up.
func TestSettledByNet(t *testing.T) {
	w := town(t)
	starts(t, w, 9)
	steps(t, w, 1, nobody, 9)
	sends(t, w, 0, plainFrame(3))
	for i := range w.Len() {
		w := town(t)
		starts(t, w, 9)
		steps(t, w, 1, nobody, 9)
		sends(t, w, 0, plainFrame(3))
		for range i {
			ok(t, w.Drop(0))
		}
		for w.Len() > 1 {
			ok(t, w.Drop(1))
		}
		onlyThat(t, w, 0, 0, 0, 0, 0, 1)
		ok(t, w.Drop(0))
		onlyThat(t, w, 0, 0, 0, 0, 0, 0)
	}
}

// TestSettledByDown: P22.1: a member's agent is down; one that is none's doesn't matter. Without rows it is the same.
func TestSettledByDown(t *testing.T) {
	for n := range 4 {
		w := made(t, span, 0, 1, 2, 3)
		starts(t, w, 0, 1, 2, 3, 9)
		talks(t, w, 2, 0, 1, 2, 3)
		onlyThat(t, w, 0, 0, 0, 0, 0, 0)
		crashes(t, w, 9)
		onlyThat(t, w, 0, 0, 0, 0, 0, 0)
		crashes(t, w, n)
		// Who is down is not idle; and has no rows, as there are none.
		onlyThat(t, w, 1, 0, 1, 0, 0, 0)
	}
	w := town(t)
	crashes(t, w, 0)
	onlyThat(t, w, 1, 1, 1, 0, 0, 0)
}

// anew lets a chassis' agent be started again, and hear of the controller, but of no row.
func anew(t testing.TB, w *world.World, n int) {
	t.Helper()
	crashes(t, w, n)
	starts(t, w, n)
	believes(t, w, n, w.Ctl().Boot())
}

// TestSettledByLacks: P22.1: a member lacks all rows, the first one, or the last one, and that alone.
func TestSettledByLacks(t *testing.T) {
	for n := range 4 {
		w := town(t)
		rows := w.Ctl().Rows()
		anew(t, w, n)
		onlyThat(t, w, 0, 1, 0, 0, 0, 0)
		for _, i := range []int{0, 1} {
			anew(t, w, n)
			believes(t, w, n, 9, rows[i])
			onlyThat(t, w, 0, 1, 0, 0, 0, 0)
			believes(t, w, n, 10, rows[1-i])
			onlyThat(t, w, 0, 0, 0, 0, 0, 0)
		}
	}
}

// TestSettledByOtherRows: P22.1: a member has another row: an elder one, a later one, one with any field another, one of another port, one more; and that alone.
func TestSettledByOtherRows(t *testing.T) {
	other := func(how func(r *api.Row)) []api.Row {
		l := []api.Row{bound(3, 1, 1, 1), bound(4, 2, 1, 1)}
		how(&l[1])
		return l
	}
	for _, l := range [][]api.Row{
		other(func(r *api.Row) { r.Ver = 2 }), other(func(r *api.Row) { r.Ver = 1 << 40 }), other(func(r *api.Row) { r.Gen = 2 }),
		other(func(r *api.Row) { r.Owner = 3 }), other(func(r *api.Row) { r.MAC++ }), other(func(r *api.Row) { r.Since = 1 }),
		other(func(r *api.Row) { r.Port, r.MAC = 5, mac(5) }), other(func(r *api.Row) { r.Port = 5 }),
		other(func(r *api.Row) { r.Phase, r.Target = api.Moving, 1 }), other(func(r *api.Row) { r.Phase, r.Old = api.Moved, 1 }), other(func(r *api.Row) { r.Phase, r.Owner = api.Gone, -1 }),
		append(other(func(*api.Row) {}), bound(5, 1, 1, 1)), append(other(func(*api.Row) {}), bound(0, 1, 1, 1)), append(other(func(*api.Row) {}), bound(31, 3, 1, 1)),
	} {
		for _, n := range []int{0, 3} {
			w := town(t)
			anew(t, w, n)
			believes(t, w, n, 9, l...)
			if got := len(w.Agent(n).Rows()); got != len(l) {
				t.Fatalf("%d rows; want %d", got, len(l))
			}
			// Of a row that moves away from a chassis its agent tells something; which is left out here.
			if w.Agent(n).Idle() {
				onlyThat(t, w, 0, 1, 0, 0, 0, 0)
			}
			settled(t, w, false)
		}
	}
	// It has an elder row of the same port.
	w := town(t)
	does(t, w, asks(api.Start, 3, 2), asks(api.Abort, 3, 0))
	talks(t, w, 4, 0, 1, 2, 3)
	settled(t, w, true)
	anew(t, w, 0)
	believes(t, w, 0, 9, bound(3, 1, 1, 1), bound(4, 2, 1, 1))
	onlyThat(t, w, 0, 1, 0, 0, 0, 0)
}

// TestSettledByOneRowWithoutAny: P22.1: a member has a row where the controller has none.
func TestSettledByOneRowWithoutAny(t *testing.T) {
	w := made(t, span, 1)
	starts(t, w, 1)
	talks(t, w, 2, 1)
	settled(t, w, true)
	believes(t, w, 1, 9, bound(3, 1, 1, 1))
	onlyThat(t, w, 0, 1, 0, 0, 0, 0)
}

// TestSettledByBusyAgent: P22.1: a member's agent has something to tell, and that alone: where nobody needs it, and the flows of a port that moved away, of which it heard no more than that they came.
func TestSettledByBusyAgent(t *testing.T) {
	for n := range 4 {
		w := town(t)
		ok(t, w.Agent(n).Push([]byte("a body")))
		onlyThat(t, w, 0, 0, 1, 0, 0, 0)
		talks(t, w, 2, 0, 1, 2, 3)
		onlyThat(t, w, 0, 0, 0, 0, 0, 0)
	}
	w := town(t)
	does(t, w, asks(api.Start, 3, 2), asks(api.Commit, 3, 0))
	talks(t, w, 2, 0, 2, 3)
	does(t, w, asks(api.Commit, 3, 0))
	talks(t, w, 2, 0, 2, 3)
	steps(t, w, 1)
	allCome(t, w)
	// 1 doesn't hear that its flows came, and 2 takes them over.
	tellsBut(t, w, 1)
	steps(t, w, 2)
	allCome(t, w)
	onlyThat(t, w, 0, 0, 1, 0, 0, 0)
	talks(t, w, 1)
	onlyThat(t, w, 0, 0, 0, 0, 0, 0)
}

// TestSettledByUnknownController: P22.1: a member's agent was started again, and knows no controller yet, and that alone, where there are no rows.
func TestSettledByUnknownController(t *testing.T) {
	for _, n := range []int{0, 15} {
		w := made(t, span, 0, 15)
		starts(t, w, 0, 15)
		talks(t, w, 2, 0, 15)
		crashes(t, w, n)
		starts(t, w, n)
		onlyThat(t, w, 0, 0, 1, 0, 0, 0)
		talks(t, w, 1)
		onlyThat(t, w, 0, 0, 0, 0, 0, 0)
	}
}

// TestSettledByBusyController: P22.1: for a member the controller is not idle, and that alone: it wasn't acknowledged what it told, doesn't know the agent, or is behind.
func TestSettledByBusyController(t *testing.T) {
	w := town(t)
	does(t, w, asks(api.RemovePort, 3, 0))
	steps(t, w, nobody)
	allCome(t, w)
	onlyThat(t, w, 0, 0, 0, 4, 0, 0)
	for n := range 4 {
		steps(t, w, n)
		allCome(t, w)
		onlyThat(t, w, 0, 0, 0, 3-n, 0, 0)
	}
	crashes(t, w, nobody)
	starts(t, w, nobody)
	onlyThat(t, w, 0, 0, 0, 4, 0, 0)
	talks(t, w, 3, 0, 1, 2, 3)
	onlyThat(t, w, 0, 0, 0, 0, 0, 0)
	does(t, w, asks(api.RemoveChassis, 0, 0))
	onlyThat(t, w, 0, 0, 0, 0, 0, 0)
	adds(t, w, 0)
	onlyThat(t, w, 0, 0, 0, 1, 0, 0)
	talks(t, w, 3, 0, 1, 2, 3)
	onlyThat(t, w, 0, 0, 0, 0, 0, 0)
}

// TestSettledByAnotherBoot: P22.1: the controller heard of a later boot of a member's agent, to which it has to tell all rows, and that alone.
func TestSettledByAnotherBoot(t *testing.T) {
	for n := range 4 {
		w := town(t)
		b, e := session.Encode(session.Letter{Mine: 9, Peer: 1})
		ok(t, e)
		_, e = w.Ctl().Take(n, b)
		ok(t, e)
		onlyThat(t, w, 0, 0, 0, 1, 0, 0)
	}
}

// TestSettledWithFlows: P22.1: flows that are tracked, and events, don't matter.
func TestSettledWithFlows(t *testing.T) {
	w := town(t)
	b, e := control.Encode(api.Message{Kind: 3, Port: 3, Ver: 1, Records: []api.Record{{Flow: api.Flow{Proto: api.TCP}, Until: 100}}})
	ok(t, e)
	l, e := session.Encode(session.Letter{Mine: 9, Peer: 1, Seq: 1, Body: b})
	ok(t, e)
	ok(t, w.Agent(1).Take(l, 0))
	if len(w.Agent(1).Records(0)) != 1 {
		t.Fatal(look(w))
	}
	onlyThat(t, w, 0, 0, 0, 0, 0, 0)
	sends(t, w, 1, plainFrame(3))
	sends(t, w, 0, plainFrame(9))
	onlyThat(t, w, 0, 0, 0, 0, 0, 0)
}
