package model_test

import (
	"slices"
	"testing"

	"rutter/api"
)

// spoil writes into all that a list's memory has.
func spoil[T any](l []T, with T) {
	l = l[:cap(l)]
	for i := range l {
		l[i] = with
	}
}

// TestAnswersAreNew: rule 4: who writes into rows and chassis that were answered turns nothing of the model, of a clone, nor of another answer.
func TestAnswersAreNew(t *testing.T) {
	m := each(t)
	was, c, rows, chassis := look(m), m.Clone(), m.Rows(), m.Chassis()
	for range 2 {
		spoil(m.Rows(), api.Row{})
		spoil(m.Chassis(), 99)
		spoil(c.Rows(), api.Row{Port: 7})
		spoil(c.Chassis(), 98)
		_, _ = append(m.Rows(), api.Row{}), append(m.Chassis(), 99)
		if look(m) != was || look(c) != was {
			t.Fatalf("%s, %s; was %s", look(m), look(c), was)
		}
	}
	if !slices.Equal(rows, m.Rows()) || !slices.Equal(chassis, m.Chassis()) {
		t.Errorf("other answers: %+v, %d", rows, chassis)
	}
}

// TestAnswersStay: rule 4: what was answered stays as it is, whatever is done then.
func TestAnswersStay(t *testing.T) {
	for i, change := range changes() {
		m := each(t)
		rows, chassis := m.Rows(), m.Chassis()
		wereRows, wereChassis := slices.Clone(rows), slices.Clone(chassis)
		change(m)
		m.Do(adds(15))
		m.Tick(1 << 39)
		if !slices.Equal(rows, wereRows) || !slices.Equal(chassis, wereChassis) {
			t.Errorf("change %d: %+v, %d", i, rows, chassis)
		}
	}
}
