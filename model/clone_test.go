package model_test

import (
	"fmt"
	"testing"

	"rutter/api"
	"rutter/model"
)

// TestClone: P20.1: a clone has the same rows, chassis and NOW: of a new one, of one with a port of each phase, and at other times.
func TestClone(t *testing.T) {
	full := each(t)
	for n := range 32 {
		full.Do(asks(api.AddPort, n, 3))
	}
	late := each(t)
	ticks(t, late, 1<<40)
	for _, m := range []*model.Model{made(t, 1), made(t, 1<<31), each(t), full, late, each(t).Clone(), full.Clone().Clone()} {
		was := look(m)
		c := m.Clone()
		if c == nil || c == m {
			t.Fatalf("%v", c)
		}
		if got := look(c); got != was {
			t.Errorf("%s; want %s", got, was)
		}
		if got := look(m); got != was {
			t.Errorf("%s; was %s", got, was)
		}
	}
}

// TestCloneSpan: P20.1: a clone has the same SPAN.
func TestCloneSpan(t *testing.T) {
	for _, span := range []int{1, 2, 9, 1 << 31} {
		m := made(t, span)
		does(t, m, adds(0), api.Row{})
		does(t, m, adds(1), api.Row{})
		does(t, m, asks(api.AddPort, 3, 0), at(0, bound(3, 0, 1, 1)))
		does(t, m, asks(api.Start, 3, 1), at(0, moving(3, 0, 1, 1, 2)))
		c := m.Clone()
		ticks(t, c, span-1)
		has(t, c, at(0, moving(3, 0, 1, 1, 2)))
		ticks(t, c, span)
		has(t, c, at(span, bound(3, 0, 1, 3)))
		has(t, m, at(0, moving(3, 0, 1, 1, 2)))
	}
}

// changes are all that may change a model.
func changes() []func(m *model.Model) {
	l := []func(m *model.Model){
		func(m *model.Model) { m.Tick(noon + 1) },
		func(m *model.Model) { m.Tick(noon + span) },
		func(m *model.Model) { m.Tick(1 << 40) },
		func(m *model.Model) { m.Awake(1, 2, 2) },
	}
	for _, x := range []api.Call{
		adds(9), {Op: api.RemoveChassis, Chassis: 3}, asks(api.AddPort, 0, 3), asks(api.AddPort, 4, 3), asks(api.RemovePort, 1, 0),
		asks(api.Start, 1, 3), asks(api.Commit, 2, 0), asks(api.Commit, 3, 0), asks(api.Abort, 2, 0),
	} {
		l = append(l, func(m *model.Model) { m.Do(x) })
	}
	return l
}

// TestCloneGoesItsOwnWay: P20.1: whatever is done with a clone, its model stays, and whatever is done with the model, its clone stays; each goes on as one that was never cloned.
func TestCloneGoesItsOwnWay(t *testing.T) {
	for i, first := range changes() {
		for j, second := range changes() {
			m, like := each(t), each(t)
			was := look(m)
			c := m.Clone()
			first(c)
			if got := look(m); got != was {
				t.Fatalf("change %d of a clone: the model %s; was %s", i, got, was)
			}
			first(like)
			want := look(like)
			second(m)
			if got := look(c); got != want || want == was {
				t.Fatalf("change %d of a clone, then %d of the model: the clone %s; want %s", i, j, got, want)
			}
			other := each(t)
			second(other)
			if got, want := look(m), look(other); got != want {
				t.Fatalf("change %d of the model, behind %d of a clone: %s; want %s", j, i, got, want)
			}
			first(m)
			first(other)
			if got, want := look(m), look(other); got != want {
				t.Fatalf("change %d of both: %s; want %s", i, got, want)
			}
		}
	}
}

// TestCloneAnswersAlike: P20.1: each call of a clone answers as the model's does.
func TestCloneAnswersAlike(t *testing.T) {
	m := each(t)
	for op := api.Op(-1); op < 9; op++ {
		for port := -1; port < 33; port++ {
			for _, n := range []int{-1, 0, 1, 3, 9, 16} {
				a, b := m.Clone(), m.Clone().Clone()
				x := asks(op, port, n)
				r, e := a.Do(x)
				s, f := b.Do(x)
				if r != s || e != f || fmt.Sprint(a.Rows(), a.Chassis()) != fmt.Sprint(b.Rows(), b.Chassis()) {
					t.Errorf("%+v: %+v, %d, then %+v, %d", x, r, e, s, f)
				}
			}
		}
	}
}
