package tail_test

import (
	"slices"

	"rutter/api"
	"rutter/world"
)

// plainBegin tells anew what Begin does, call by call.
func plainBegin(w *world.World) api.Errno {
	if w == nil {
		return api.ErrArg
	}
	if w.Ctl() == nil {
		if e := w.Start(nobody); e != api.OK {
			return e
		}
	}
	for n := 15; n >= 0; n-- {
		if slices.Contains(w.Ctl().Chassis(), n) && w.Agent(n) == nil {
			w.Start(n)
		}
	}
	return api.OK
}

// plainRound tells anew what a round does, call by call.
func plainRound(w *world.World, lost bool) (int, api.Errno) {
	if w == nil {
		return 0, api.ErrArg
	}
	if w.Ctl() == nil {
		return 0, api.ErrDown
	}
	if w.Now() == 1<<40 {
		return 0, api.ErrArg
	}
	w.Tick(1)
	w.Step(nobody)
	for n := range 16 {
		if slices.Contains(w.Ctl().Chassis(), n) && w.Agent(n) != nil {
			w.Step(n)
		}
	}
	delivered := 0
	for taken := 0; w.Len() > 0 && taken < 65536; taken++ {
		if x, _ := w.At(0); lost && (x.Kind == 0 || x.Kind == 1) {
			w.Drop(0)
			continue
		}
		w.Deliver(0)
		delivered++
	}
	return delivered, api.OK
}

// plainSettled tells anew whether a world is settled.
func plainSettled(w *world.World) bool {
	c := w.Ctl()
	still := c != nil && w.Len() == 0
	for _, r := range c.Rows() {
		still = still && r.Target == -1 && r.Old == -1
	}
	for _, n := range c.Chassis() {
		a := w.Agent(n)
		still = still && a != nil && len(a.Rows()) == len(c.Rows()) && a.Idle() && c.Idle(n)
		for _, r := range c.Rows() {
			still = still && slices.Contains(a.Rows(), r)
		}
	}
	return still
}

// plainRun tells anew what Run does, round by round; loss is less than the greatest number.
func plainRun(w *world.World, rounds, loss int) (int, api.Errno) {
	if e := plainBegin(w); e != api.OK {
		return 0, e
	}
	for k := 1; ; k++ {
		switch {
		case plainSettled(w):
			return k - 1, api.OK
		case k > rounds:
			return 0, api.ErrState
		}
		if _, e := plainRound(w, k%(max(loss, 0)+1) != 0); e != api.OK {
			return 0, e
		}
	}
}
