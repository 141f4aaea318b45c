package store_test

import (
	"slices"
	"testing"

	"rutter/api"
	"rutter/store"
)

// some is a store with all chassis, and rows of each phase.
func some(t *testing.T) *store.Store {
	t.Helper()
	return wide(t, row(0), row(1, port(3), mac(3)), row(2, port(30), mac(30)), row(3, port(5)))
}

// spoil writes into all that a list's memory has.
func spoil[T any](l []T, x T) {
	l = l[:cap(l)]
	for i := range l {
		l[i] = x
	}
}

// TestAnswersAreNew: rule 4: who writes into what was answered turns nothing of the store, nor of another answer.
func TestAnswersAreNew(t *testing.T) {
	s := some(t)
	was := look(s)
	chassis, rows, late := s.Chassis(), s.Rows(), s.Late(6000, 10)
	spoil(s.Chassis(), 99)
	spoil(s.Rows(), api.Row{Port: 7})
	spoil(s.Late(6000, 10), store.Change{Was: 7})
	_ = append(s.Chassis(), 99)
	_ = append(s.Rows(), api.Row{Port: 7})
	if got := look(s); got != was {
		t.Errorf("%s; was %s", got, was)
	}
	if !slices.Equal(chassis, s.Chassis()) || !slices.Equal(rows, s.Rows()) || !slices.Equal(late, s.Late(6000, 10)) {
		t.Errorf("other answers: %d, %+v, %+v", chassis, rows, late)
	}
}

// TestAnswersStay: rule 4: what was answered stays, whatever is done with the store.
func TestAnswersStay(t *testing.T) {
	s := some(t)
	chassis, rows, late := s.Chassis(), s.Rows(), s.Late(6000, 10)
	chassisWere, rowsWere, lateWere := slices.Clone(chassis), slices.Clone(rows), slices.Clone(late)
	does(t, s, late...)
	does(t, s, from(900, row(3, ver(901))), from(0, row(0, port(0), mac(9))))
	removes(t, s, 0, api.OK)
	if !slices.Equal(chassis, chassisWere) || !slices.Equal(rows, rowsWere) || !slices.Equal(late, lateWere) {
		t.Errorf("%d, %+v, %+v", chassis, rows, late)
	}
}

// TestApplyKeepsNothing: rule 4: what is handed to Apply is neither kept nor written into, nor what lies behind it, with an error and without.
func TestApplyKeepsNothing(t *testing.T) {
	for _, last := range []api.Row{row(1, port(3), mac(3), ver(902)), {}} {
		s := some(t)
		room := []store.Change{from(900, row(0, ver(901))), from(0, row(3, port(0))), from(900, last), from(5, api.Row{Port: 5}), from(0, row(3, port(1)))}
		handed := slices.Clone(room)
		e := s.Apply(room[:3]...)
		if (e == api.OK) != (last != api.Row{}) || !slices.Equal(room, handed) {
			t.Errorf("%d, %+v; was %+v", e, room, handed)
		}
		was := look(s)
		spoil(room, from(0, row(0, port(4))))
		if got := look(s); got != was {
			t.Errorf("%s; was %s", got, was)
		}
	}
}

// TestStoresAreApart: P2: the same calls of two stores answer the same, whatever is done with others between.
func TestStoresAreApart(t *testing.T) {
	c, d := chance(3), chance(3)
	a, b, other := two(), two(), two()
	between := chance(4)
	for i := range 400 {
		e, _ := c.any(a)(a)
		between.any(other)(other)
		if f, _ := d.any(b)(b); e != f || look(a.s) != look(b.s) {
			t.Fatalf("call %d: %d, %s; then %d, %s", i, e, look(a.s), f, look(b.s))
		}
	}
}

// TestRowsAreCopied: rule 4: a store that was made of another one's rows goes its own way.
func TestRowsAreCopied(t *testing.T) {
	s := some(t)
	other := like(t, s)
	was := look(s)
	does(t, other, from(900, row(3, ver(901))), other.Late(6000, 0)[0])
	removes(t, other, 15, api.OK)
	if got := look(s); got != was {
		t.Errorf("%s; was %s", got, was)
	}
	if got := look(other); got == was {
		t.Error("nothing was done")
	}
}
