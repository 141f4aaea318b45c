package ctl_test

import (
	"bytes"
	"slices"
	"testing"

	"rutter/api"
	"rutter/session"
)

// memory is all that a list's memory has.
func memory[T any](l []T) []T { return l[:cap(l)] }

// spoil writes into all that a list's memory has.
func spoil[T any](l []T, with T) {
	for i := range memory(l) {
		memory(l)[i] = with
	}
}

// TestTakeKeepsNothing: rule 4: a letter's bytes are neither written into nor kept, whatever it says, and whether it is refused or not.
func TestTakeKeepsNothing(t *testing.T) {
	next := func(h *host, m api.Message) session.Letter { return h.fills(h.next(body(t, m))) }
	for _, make := range []func(h *host) []byte{
		func(h *host) []byte { return letter(t, next(h, aTracked(1, 9, flows(16)...))) },
		func(h *host) []byte { return letter(t, next(h, anAwake(2, 10))) },
		func(h *host) []byte { return letter(t, next(h, aRow(bound(1, 1, 6, 10)))) },
		func(h *host) []byte { return letter(t, h.fills(h.next([]byte("no message")))) },
		func(h *host) []byte { return letter(t, h.anew().fills(session.Letter{})) },
		func(h *host) []byte { return letter(t, lone(1)) },
		func(h *host) []byte { return []byte("no letter") },
	} {
		for _, n := range []int{1, 9, -1} {
			d := each(t)
			d.meets(t, 0)
			b := make(d.meets(t, 1))
			room := append(bytes.Clone(b), "what lies behind"...)
			was := bytes.Clone(room)
			d.Take(n, room[:len(b)])
			if !bytes.Equal(room, was) {
				t.Errorf("written into: %x; was %x", room, was)
			}
			want := d.look()
			spoil(room, '!')
			if got := d.look(); got != want {
				t.Errorf("kept: %s; want %s", got, want)
			}
		}
	}
}

// TestMessageIsNew: rule 4: who writes into the records of a message that was handed out turns nothing of what goes on.
func TestMessageIsNew(t *testing.T) {
	d := each(t)
	a, b := d.meets(t, 0), d.meets(t, 1)
	m := b.gives(t, b.next(body(t, aTracked(1, 9, flows(16)...))))
	spoil(m.Records, api.Record{})
	a.hears(t, aTracked(1, 9, flows(16)...))
}

// TestAnswersAreNew: rule 4: who writes into rows, chassis and letters that were answered turns nothing of the controller, nor of another answer, nor of another letter.
func TestAnswersAreNew(t *testing.T) {
	d := each(t)
	d.meets(t, 1)
	d.floods(t, 5)
	was, rows, chassis, out := d.look(), d.Rows(), d.Chassis(), d.Out(1)
	other, letters := d.Out(1), texts(out)
	if len(out) != 5 || len(rows) != 5 || len(chassis) != 4 {
		t.Fatal(was)
	}
	for i := range other {
		_ = append(other[i], "!!!!!!!!!!!!!!!!"...)
		spoil(other[i], '!')
		if i < 4 && string(other[i+1]) != letters[i+1] {
			t.Errorf("two letters of one memory: %x", other[i+1])
		}
	}
	spoil(d.Rows(), api.Row{})
	spoil(d.Chassis(), 99)
	spoil(d.Out(1), nil)
	_, _, _ = append(d.Rows(), api.Row{}), append(d.Chassis(), 99), append(d.Out(1), nil)
	if got := d.look(); got != was {
		t.Errorf("%s; was %s", got, was)
	}
	if !slices.Equal(texts(out), letters) || !slices.Equal(rows, d.Rows()) || !slices.Equal(chassis, d.Chassis()) {
		t.Errorf("other answers: %x, %+v, %d", out, rows, chassis)
	}
}

// TestAnswersStay: rule 4: what was answered stays as it is, whatever is done then.
func TestAnswersStay(t *testing.T) {
	d := each(t)
	h := d.meets(t, 1)
	d.floods(t, 5)
	rows, chassis, out := d.Rows(), d.Chassis(), d.Out(1)
	rowsWere, chassisWere, letters := slices.Clone(rows), slices.Clone(chassis), texts(out)
	d.floods(t, 66)
	d.does(t, api.Call{Op: api.AddChassis, Chassis: 2 * 3}, api.Row{})
	h.says(t, anAwake(2, 10))
	h.anew().gives(t, session.Letter{})
	d.ticks(t, noon+span)
	d.does(t, api.Call{Op: api.RemoveChassis, Chassis: 6}, api.Row{})
	d.Half(api.Call{Op: api.RemovePort, Port: 1})
	if !slices.Equal(rows, rowsWere) || !slices.Equal(chassis, chassisWere) || !slices.Equal(texts(out), letters) {
		t.Errorf("%+v, %d, %x", rows, chassis, out)
	}
}

// TestFileIsUsed: rule 4: the file that a controller is opened on is used from then on, and what two have is apart.
func TestFileIsUsed(t *testing.T) {
	text := peopled()
	f, g := file(t, much, text), file(t, much, text)
	a, b := &desk{opened(t, f, noon), f}, &desk{opened(t, g, noon), g}
	a.becomes(t, api.Call{Op: api.Start, Port: 0, Chassis: 1}, moving(0, 0, 1, 1, 2))
	b.has(t, bound(0, 0, 1, 1), moving(1, 1, 2, 3, 5), gone(2, 2, 2))
	if got := b.tail(t, len(text)); got != whole(ofBoot(1)) {
		t.Errorf("%x", got)
	}
}
