package model_test

import (
	"math"
	"testing"

	"rutter/api"
)

// TestChassis: P20.1: chassis come and go; what a call has beside its chassis is nothing to it.
func TestChassis(t *testing.T) {
	m := made(t, span)
	for _, n := range []int{3, 0, 15} {
		does(t, m, api.Call{Op: api.AddChassis, Chassis: n, Port: -7, MAC: math.MaxUint64}, api.Row{})
	}
	are(t, m, 0, 3, 15)
	for _, n := range []int{0, 3, 15} {
		refuses(t, m, adds(n), api.ErrTwice)
	}
	for _, n := range wrongChassis() {
		refuses(t, m, adds(n), api.ErrArg)
		refuses(t, m, api.Call{Op: api.RemoveChassis, Chassis: n}, api.ErrNone)
	}
	for _, n := range []int{1, 2, 4, 14} {
		refuses(t, m, api.Call{Op: api.RemoveChassis, Chassis: n}, api.ErrNone)
	}
	does(t, m, api.Call{Op: api.RemoveChassis, Chassis: 3, Port: 99, MAC: 1 << 50}, api.Row{})
	are(t, m, 0, 15)
	refuses(t, m, api.Call{Op: api.RemoveChassis, Chassis: 3}, api.ErrNone)
	does(t, m, adds(3), api.Row{})
	are(t, m, 0, 3, 15)
	has(t, m)
}

// TestUsed: P20.1: a chassis that a row names, as Owner, Target or Old, stays; one that none does any more goes.
func TestUsed(t *testing.T) {
	removes := func(n int) api.Call { return api.Call{Op: api.RemoveChassis, Chassis: n} }
	m := each(t)
	for n := range 3 {
		refuses(t, m, removes(n), api.ErrUsed)
	}
	does(t, m, removes(3), api.Row{})
	does(t, m, asks(api.Abort, 2, 0), bound(2, 0, 1, 3))
	does(t, m, removes(1), api.Row{})
	does(t, m, asks(api.Commit, 3, 0), bound(3, 2, 2, 4))
	refuses(t, m, removes(0), api.ErrUsed)
	refuses(t, m, removes(2), api.ErrUsed)
	does(t, m, asks(api.RemovePort, 1, 0), gone(1, 1, 2))
	does(t, m, asks(api.RemovePort, 2, 0), gone(2, 1, 4))
	does(t, m, removes(0), api.Row{})
	are(t, m, 2)
	has(t, m, gone(1, 1, 2), gone(2, 1, 4), bound(3, 2, 2, 4), gone(4, 1, 2))
}

// TestAddPort: P20.1: a port that has no row gets a first one; one that is gone goes on with its generation, and its version.
func TestAddPort(t *testing.T) {
	m := each(t)
	becomes(t, m, api.Call{Op: api.AddPort, Port: 0, Chassis: 3}, with(0, bound(0, 3, 1, 1)))
	becomes(t, m, api.Call{Op: api.AddPort, Port: 31, Chassis: 0, MAC: 1<<48 - 1}, with(1<<48-1, bound(31, 0, 1, 1)))
	becomes(t, m, api.Call{Op: api.AddPort, Port: 17, Chassis: 2, MAC: mac(4)}, with(mac(4), bound(17, 2, 1, 1)))
	refuses(t, m, asks(api.AddPort, 4, 1), api.ErrTwice)
	becomes(t, m, api.Call{Op: api.AddPort, Port: 4, Chassis: 1, MAC: 44}, with(44, bound(4, 1, 2, 3)))
	becomes(t, m, asks(api.RemovePort, 17, 0), with(mac(4), gone(17, 1, 2)))
	becomes(t, m, asks(api.RemovePort, 4, 0), with(44, gone(4, 2, 4)))
	becomes(t, m, asks(api.AddPort, 4, 3), bound(4, 3, 3, 5))
	refuses(t, m, api.Call{Op: api.AddPort, Port: 17, Chassis: 2, MAC: mac(4)}, api.ErrTwice)
	becomes(t, m, asks(api.AddPort, 17, 2), bound(17, 2, 2, 3))
}

// TestAddPortErrors: P20.1: ErrTwice of a port that is not gone, whatever else is wrong; then 9's; then 10's: a chassis that isn't there, an address that another port has.
func TestAddPortErrors(t *testing.T) {
	m := each(t)
	for _, port := range []int{1, 2, 3} {
		for _, n := range append(wrongChassis(), 0, 9) {
			for _, a := range append(wrongAddresses(), 7, mac(1)) {
				refuses(t, m, api.Call{Op: api.AddPort, Port: port, Chassis: n, MAC: a}, api.ErrTwice)
			}
		}
	}
	for _, port := range []int{0, 4, 31} {
		for _, n := range wrongChassis() {
			refuses(t, m, api.Call{Op: api.AddPort, Port: port, Chassis: n, MAC: mac(1)}, api.ErrArg)
		}
		for _, a := range wrongAddresses() {
			refuses(t, m, api.Call{Op: api.AddPort, Port: port, Chassis: 9, MAC: a}, api.ErrArg)
		}
		for n := 4; n < 16; n++ {
			refuses(t, m, api.Call{Op: api.AddPort, Port: port, Chassis: n, MAC: mac(1)}, api.ErrNone)
		}
		for p := 1; p < 4; p++ {
			refuses(t, m, api.Call{Op: api.AddPort, Port: port, Chassis: 3, MAC: mac(p)}, api.ErrTwice)
		}
	}
	for _, port := range wrongPorts() {
		refuses(t, m, api.Call{Op: api.AddPort, Port: port, Chassis: 9, MAC: mac(1)}, api.ErrArg)
		refuses(t, m, api.Call{Op: api.AddPort, Port: port, Chassis: 1, MAC: 7}, api.ErrArg)
	}
}

// TestActs: P20.1: each act on a port that is bound, moving, moved, gone, and has no row: what it answers, or its error.
func TestActs(t *testing.T) {
	const none, state = api.ErrNone, api.ErrState
	for _, x := range []struct {
		op   api.Op
		rows [4]api.Row // of ports 1 to 4; 0, where there is an error
		errs [4]api.Errno
	}{
		{api.RemovePort, [4]api.Row{gone(1, 1, 2)}, [4]api.Errno{0, state, state, none}},
		{api.Start, [4]api.Row{moving(1, 0, 3, 1, 2)}, [4]api.Errno{0, state, state, none}},
		{api.Commit, [4]api.Row{1: moved(2, 1, 0, 2, 3), 2: bound(3, 2, 2, 4)}, [4]api.Errno{state, 0, 0, none}},
		{api.Abort, [4]api.Row{1: bound(2, 0, 1, 3)}, [4]api.Errno{state, 0, state, none}},
		{api.Query, [4]api.Row{bound(1, 0, 1, 1), moving(2, 0, 1, 1, 2), moved(3, 2, 0, 2, 3)}, [4]api.Errno{0, 0, 0, none}},
	} {
		for i, want := range x.rows {
			m, call := each(t), api.Call{Op: x.op, Port: i + 1, Chassis: 3, MAC: math.MaxUint64}
			if x.errs[i] != api.OK {
				refuses(t, m, call, x.errs[i])
				continue
			}
			becomes(t, m, call, want)
		}
		m := each(t)
		for _, port := range append(wrongPorts(), 0, 5, 31) {
			refuses(t, m, api.Call{Op: x.op, Port: port, Chassis: 3}, none)
		}
	}
}

// TestActsOfTheirPort: P20.1: RemovePort, Commit, Abort and Query don't look at a chassis, nor at an address.
func TestActsOfTheirPort(t *testing.T) {
	for _, n := range append(wrongChassis(), 0, 9) {
		m := each(t)
		becomes(t, m, api.Call{Op: api.Query, Port: 1, Chassis: n, MAC: 1 << 48}, bound(1, 0, 1, 1))
		becomes(t, m, api.Call{Op: api.RemovePort, Port: 1, Chassis: n, MAC: 1 << 48}, gone(1, 1, 2))
		becomes(t, m, api.Call{Op: api.Abort, Port: 2, Chassis: n, MAC: 1 << 48}, bound(2, 0, 1, 3))
		becomes(t, m, api.Call{Op: api.Commit, Port: 3, Chassis: n, MAC: 1 << 48}, bound(3, 2, 2, 4))
	}
}

// TestStart: P20.1: Start's errors in their order: the port, the chassis, the phase, the owner, a chassis that isn't there.
func TestStart(t *testing.T) {
	m := each(t)
	for _, n := range wrongChassis() {
		for _, port := range []int{0, 4} {
			refuses(t, m, asks(api.Start, port, n), api.ErrNone)
		}
		for _, port := range []int{1, 2, 3} {
			refuses(t, m, asks(api.Start, port, n), api.ErrArg)
		}
	}
	for n := range 16 {
		refuses(t, m, asks(api.Start, 2, n), api.ErrState)
		refuses(t, m, asks(api.Start, 3, n), api.ErrState)
		if n > 3 {
			refuses(t, m, asks(api.Start, 1, n), api.ErrNone)
		}
	}
	refuses(t, m, asks(api.Start, 1, 0), api.ErrSame)
	becomes(t, m, api.Call{Op: api.Start, Port: 1, Chassis: 1, MAC: 1 << 60}, moving(1, 0, 1, 1, 2))
}

// TestMoveOn: P20.1: a port that moves, again and again, and is removed and added between: of each owner a generation.
func TestMoveOn(t *testing.T) {
	m := each(t)
	gen, ver, owner := 1, 1, 0
	for i := range 40 {
		to := (owner + 1 + i%3) % 4
		becomes(t, m, asks(api.Start, 1, to), moving(1, owner, to, gen, ver+1))
		if i%3 == 2 {
			becomes(t, m, asks(api.Abort, 1, to), bound(1, owner, gen, ver+2))
			becomes(t, m, asks(api.RemovePort, 1, to), gone(1, gen, ver+3))
			becomes(t, m, asks(api.AddPort, 1, to), bound(1, to, gen+1, ver+4))
			gen, ver, owner = gen+1, ver+4, to
			continue
		}
		becomes(t, m, asks(api.Commit, 1, to), moved(1, to, owner, gen+1, ver+2))
		becomes(t, m, asks(api.Commit, 1, to), bound(1, to, gen+1, ver+3))
		gen, ver, owner = gen+1, ver+3, to
	}
}

// TestOthers: P20.1: any other op is ErrArg, whatever else it has.
func TestOthers(t *testing.T) {
	m := each(t)
	for _, op := range wrongOps() {
		for _, port := range []int{-1, 0, 1, 2, 3, 4, 32} {
			for _, n := range []int{-1, 0, 3, 9, 16} {
				refuses(t, m, api.Call{Op: op, Port: port, Chassis: n, MAC: 7}, api.ErrArg)
			}
		}
	}
}

// TestErrorsChangeNothing: P20.1, rule 3: NOW, too, is as it was behind a call with an error, and behind a Query.
func TestErrorsChangeNothing(t *testing.T) {
	m := each(t)
	was := look(m)
	for _, x := range []api.Call{
		adds(1), adds(16), {Op: api.RemoveChassis, Chassis: 9}, {Op: api.RemoveChassis}, asks(api.AddPort, 1, 1), asks(api.AddPort, 0, 9), asks(api.RemovePort, 2, 0),
		asks(api.Start, 1, 0), asks(api.Commit, 1, 0), asks(api.Abort, 3, 0), asks(api.Query, 4, 0), asks(api.Query, 1, 0), asks(8, 1, 1),
	} {
		m.Do(x)
		if got := look(m); got != was {
			t.Fatalf("%+v: %s; was %s", x, got, was)
		}
	}
}

// TestAtNow: P20.1: what is done is so since NOW, that of the last tick.
func TestAtNow(t *testing.T) {
	m := each(t)
	for i, now := range []int{noon, noon + 1, noon + 9} {
		ticks(t, m, now)
		becomes(t, m, asks(api.AddPort, 20+i, 3), at(now, bound(20+i, 3, 1, 1)))
		becomes(t, m, asks(api.RemovePort, 20+i, 3), at(now, gone(20+i, 1, 2)))
		becomes(t, m, asks(api.AddPort, 20+i, 2), at(now, bound(20+i, 2, 2, 3)))
	}
	ticks(t, m, 1<<40)
	becomes(t, m, asks(api.Start, 1, 2), at(1<<40, moving(1, 0, 2, 1, 2)))
	becomes(t, m, asks(api.Commit, 1, 0), at(1<<40, moved(1, 2, 0, 2, 3)))
	becomes(t, m, asks(api.Commit, 1, 0), at(1<<40, bound(1, 2, 2, 4)))
	becomes(t, m, asks(api.Start, 1, 0), at(1<<40, moving(1, 2, 0, 2, 5)))
	becomes(t, m, asks(api.Abort, 1, 0), at(1<<40, bound(1, 2, 2, 6)))
}
