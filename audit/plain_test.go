package audit_test

import (
	"rutter/api"
	"rutter/audit"
	"rutter/world"
)

// plainFault tells anew what is wrong with an event, from all that stand ahead.
func plainFault(ahead []world.Event, x world.Event) audit.Fault {
	guest, packet := x.What == 1, x.What == 2
	if !guest && !packet {
		return nothing
	}
	if x.Done == 1 {
		times := 0
		for _, y := range ahead {
			there := (y.What == 1 || y.What == 2) && y.Done == 1
			if there && y.Port == x.Port && y.Gen == x.Gen && y.Chassis != x.Chassis {
				return audit.Owner
			}
			if there && y.ID == x.ID {
				times++
			}
			if y.What == 3 && y.ID == x.ID {
				times--
			}
		}
		if times > 0 {
			return audit.Often
		}
		if x.Stamp > x.Gen {
			return audit.Below
		}
	}
	home, back := x.Origin == x.Chassis, x.From == x.Chassis
	straight := x.Origin == x.From
	switch {
	case guest && !(home && back),
		packet && (home || back),
		packet && straight && x.Kind != api.Normal,
		packet && !straight && x.Kind != api.Forward:
		return audit.Round
	}
	if x.Done == 2 {
		for _, n := range []int{x.Chassis, x.Origin, x.From} {
			if x.To == n {
				return audit.Again
			}
		}
		if packet && x.Kind == api.Forward {
			return audit.Again
		}
	}
	return nothing
}

// plainLook tells anew where the first event is that is wrong, and how.
func plainLook(l []world.Event) (int, audit.Fault) {
	for i, x := range l {
		if f := plainFault(l[:i], x); f != nothing {
			return i, f
		}
	}
	return -1, nothing
}

// plainTwice tells anew which row two have.
func plainTwice(w *world.World) (api.Row, bool) {
	for port := range 32 {
		for n := range 16 {
			r, ok := owns(w, n, port)
			for lesser := 0; ok && lesser < n; lesser++ {
				if x, ok := owns(w, lesser, port); ok && x.Gen == r.Gen {
					return r, true
				}
			}
		}
	}
	return api.Row{}, false
}

// owns is the row of a port that a chassis' agent has, if that owns it.
func owns(w *world.World, chassis, port int) (api.Row, bool) {
	for _, r := range w.Agent(chassis).Rows() {
		if r.Port == port && r.Owner == chassis {
			return r, true
		}
	}
	return api.Row{}, false
}
