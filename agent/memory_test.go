package agent_test

import (
	"bytes"
	"slices"
	"testing"

	"rutter/api"
	"rutter/dpath"
	"rutter/session"
)

// roomy are a list's bytes, with others behind its length in its memory.
func roomy(b []byte) []byte {
	return append(slices.Clone(b), "what lies behind"...)[:len(b)]
}

// whole is all that a list's memory has.
func whole[T any](l []T) []T { return l[:cap(l)] }

// spoil writes into all that a list's memory has.
func spoil[T any](l []T, with T) {
	for i := range whole(l) {
		whole(l)[i] = with
	}
}

// copied is a state with memory of its own.
func (s state) copied() state {
	s.out, s.rows, s.records = slices.Clone(s.out), slices.Clone(s.rows), slices.Clone(s.records)
	for i := range s.out {
		s.out[i] = bytes.Clone(s.out[i])
	}
	return s
}

// TestTakeKeepsNothing: rule 4: a letter's bytes are neither written into nor kept, whatever it says, and whether it is refused or not.
func TestTakeKeepsNothing(t *testing.T) {
	row, flows := body(t, ofRow(bound(9, here, 1, 1))), body(t, ofFlows(1, 1, until(150, nth(5))))
	for _, b := range [][]byte{
		letter(t, next(row)), letter(t, next(flows)), letter(t, next([]byte("no message"))), letter(t, next(body(t, ofAwake(2, 4)))),
		letter(t, session.Letter{Mine: far + 1, Peer: boot, Seq: 1, Body: row}), letter(t, session.Letter{Mine: 1, Peer: boot}), letter(t, session.Letter{Mine: far, Peer: boot, Ack: 1}),
		[]byte("no letter"), nil,
	} {
		for _, now := range []int{noon, -1} {
			l, room := busy(t), roomy(b)
			was := slices.Clone(whole(room))
			l.Take(room, now)
			if !bytes.Equal(whole(room), was) {
				t.Errorf("written into: %x; was %x", whole(room), was)
			}
			want := stateOf(l.Agent).copied()
			spoil(room, '!')
			if got := stateOf(l.Agent); !got.equal(want) {
				t.Errorf("kept: %+v; want %+v", got, want)
			}
		}
	}
}

// apart checks that what call answers is new memory, and shares none with what was handed in, which stays as it was.
func apart(t *testing.T, l *line, in []byte, call func() dpath.Outcome) {
	t.Helper()
	was := slices.Clone(whole(in))
	a, b := call(), call()
	want := a
	want.Frame, want.Packet.Frame = bytes.Clone(a.Frame), bytes.Clone(a.Packet.Frame)
	state := stateOf(l.Agent).copied()
	if !bytes.Equal(whole(in), was) || !same(b, want) {
		t.Errorf("written into: %x; was %x", whole(in), was)
	}
	spoil(b.Frame, '!')
	spoil(b.Packet.Frame, '!')
	if !same(a, want) || !bytes.Equal(whole(in), was) || !same(call(), want) {
		t.Errorf("shared by two answers, or with what came in: %+v; want %+v", a, want)
	}
	spoil(in, '?')
	if got := stateOf(l.Agent); !same(a, want) || !got.equal(state) {
		t.Errorf("kept: %+v, %+v; want %+v, %+v", a, got, want, state)
	}
}

// TestGuestKeepsNothing: rule 4: a guest's load is neither written into nor kept, and an outcome is new memory.
func TestGuestKeepsNothing(t *testing.T) {
	for _, load := range [][]byte{datagram(t, nth(9)), nil, []byte("hi"), make([]byte, 1500), make([]byte, 1501), rarp(t, mac(6)).Load, rarp(t, mac(2)).Load} {
		for _, ty := range []int{api.TypeIPv4, api.TypeRARP, 7} {
			for _, port := range []int{1, 3, 4, 9} {
				l, f := busy(t), api.Frame{Dst: mac(port), Type: ty, Load: roomy(load)}
				apart(t, l, f.Load, func() dpath.Outcome {
					o, _ := l.Guest(f, noon, 1)
					return o
				})
			}
		}
	}
}

// TestTunnelKeepsNothing: rule 4: a packet's frame is neither written into nor kept, and an outcome is new memory.
func TestTunnelKeepsNothing(t *testing.T) {
	for _, f := range []api.Frame{talks(t, mac(1), nth(9)), {}, {Load: make([]byte, 1500)}, rarp(t, mac(6))} {
		for _, port := range []int{1, 3, 4, 9} {
			for _, gen := range []int{0, 1, 9} {
				for _, p := range []api.Packet{normal(t, port, gen, f), forwarded(t, port, gen, f)} {
					l := busy(t)
					if port == 3 {
						l.hears(t, noon, ofRow(moved(3, 7, here, 5, 8)))
					}
					p.Frame = roomy(p.Frame)
					apart(t, l, p.Frame, func() dpath.Outcome {
						o, _ := l.Tunnel(p, noon)
						return o
					})
				}
			}
		}
	}
}

// TestAnswersAreNew: rule 4: who writes into letters, rows and records that were answered turns nothing of the agent, nor of another answer, nor of another letter.
func TestAnswersAreNew(t *testing.T) {
	l := busy(t)
	want := stateOf(l.Agent).copied()
	a, b := stateOf(l.Agent), stateOf(l.Agent)
	if len(a.out) != 2 || len(a.rows) != 5 || len(a.records) != 3 {
		t.Fatalf("%+v", a)
	}
	for i := range a.out {
		_ = append(a.out[i], "!!!!!!!!!!!!!!!!"...)
		spoil(a.out[i], '!')
		if i == 0 && !bytes.Equal(a.out[1], want.out[1]) {
			t.Errorf("two letters of one memory: %x", a.out[1])
		}
	}
	_, _, _ = append(a.out, nil), append(a.rows, api.Row{}), append(a.records, api.Record{})
	spoil(a.out, nil)
	spoil(a.rows, api.Row{})
	spoil(a.records, api.Record{})
	if !b.equal(want) {
		t.Errorf("another answer: %+v; want %+v", b, want)
	}
	if got := stateOf(l.Agent); !got.equal(want) {
		t.Errorf("the agent's: %+v; want %+v", got, want)
	}
}

// TestAnswersStay: rule 4: what was answered stays as it is, whatever is done then.
func TestAnswersStay(t *testing.T) {
	l := busy(t)
	f := talks(t, mac(1), nth(0))
	o, _ := l.Guest(f, noon, 1)
	got := stateOf(l.Agent)
	want := got.copied()
	l.hears(t, noon, ofRow(bound(0, here, 1, 9)))
	l.hears(t, noon, ofRow(gone(1, 9, 9)))
	l.hears(t, noon, ofRow(moved(4, 4, here, 9, 9)))
	l.bodies(t, noon)
	l.hears(t, 500, ofFlows(0, 9, many(16, 900)...))
	l.anew(t, 1000)
	l.hears(t, 1000, ofRow(bound(3, here, 9, 9)))
	l.guest(t, f, 1000, 1, dpath.Outcome{})
	if !got.equal(want) || !same(o, delivered(t, 1, 2, 2, f)) {
		t.Errorf("%+v, %+v; was %+v", got, o, want)
	}
}
