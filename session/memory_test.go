package session_test

import (
	"bytes"
	"slices"
	"testing"

	"rutter/api"
	"rutter/session"
)

// spoil writes into all that a list's memory has.
func spoil[T any](l []T, with T) {
	l = l[:cap(l)]
	for i := range l {
		l[i] = with
	}
}

// TestEncodeKeepsNothing: rule 4: the body is neither written into nor kept, and an answer is new memory.
func TestEncodeKeepsNothing(t *testing.T) {
	room := text(40)
	l := full(holds(room[:20]))
	a, _ := session.Encode(l)
	b, _ := session.Encode(l)
	spoil(a, '!')
	if !bytes.Equal(room, text(40)) || !bytes.Equal(b, plainBytes(full())) {
		t.Errorf("written into: %q %q", room, b)
	}
	session.Right(l)
	spoil(room, '!')
	if !bytes.Equal(b, plainBytes(full())) {
		t.Errorf("kept: %q", b)
	}
}

// TestDecodeKeepsNothing: rule 4: the bytes are neither written into nor kept, and the body is new memory.
func TestDecodeKeepsNothing(t *testing.T) {
	was := append(plainBytes(full()), "room"...)
	room := bytes.Clone(was)
	n := len(room) - len("room")
	a, _ := session.Decode(room[:n])
	b, _ := session.Decode(room[:n])
	spoil(a.Body, '!')
	_ = append(a.Body, "!!!!"...)
	if !bytes.Equal(room, was) || !same(b, full()) {
		t.Errorf("written into: %q %+v", room, b)
	}
	spoil(room, '!')
	if !same(b, full()) {
		t.Errorf("kept: %+v", b)
	}
}

// TestPushKeepsNothing: rule 4: what is handed to Push is neither kept nor written into, nor what lies behind it, with an error and without.
func TestPushKeepsNothing(t *testing.T) {
	for _, size := range []int{0, 1, 7, 63, 64} {
		s, p := busy(t, size)
		room := text(40)
		if s.Push(room[:20]) == api.OK {
			p.queue = append(p.queue, string(text(20)))
		}
		s.Push(room[:0])
		for range 4 {
			s.Push([]byte("other"))
		}
		p.queue = append(p.queue, slices.Repeat([]string{"other"}, max(0, min(4, 64-len(p.queue))))...)
		if !bytes.Equal(room, text(40)) {
			t.Errorf("of %d: written into: %q", size, room)
		}
		spoil(room, '!')
		comes(t, s, p)
	}
}

// TestOutIsNew: rule 4: who writes into letters that go turns nothing of the session, nor of another answer, nor of another letter.
func TestOutIsNew(t *testing.T) {
	for _, size := range []int{0, 1, 8, 9, 64} {
		s, p := busy(t, size)
		a, b := s.Out(), s.Out()
		for i := range a {
			_ = append(a[i].Body, "!!!!!!!!!!!!!!!!"...)
			spoil(a[i].Body, '!')
			if rest := slices.Clone(a[i+1:]); !sameLetters(rest, p.out()[i+1:]) {
				t.Errorf("of %d: letter %d is another's memory: %+v", size, i, rest)
			}
		}
		spoil(a, session.Letter{})
		_ = append(a, session.Letter{})
		if !sameLetters(b, p.out()) {
			t.Errorf("of %d: another answer: %+v", size, b)
		}
		has(t, s, p)
		comes(t, s, p)
	}
}

// TestOutStays: rule 4: letters that went stay as they are, whatever is done with the session.
func TestOutStays(t *testing.T) {
	s, p := busy(t, 9)
	l, want := s.Out(), p.out()
	takes(t, s, from(ack(6), says(3, "b")), taken{"b", true, false})
	for range 8 {
		pushes(t, s, "other", api.OK)
	}
	takes(t, s, from(mine(10)), taken{reset: true})
	for range 64 {
		pushes(t, s, "new", api.OK)
	}
	if !sameLetters(l, want) {
		t.Errorf("%+v; was %+v", l, want)
	}
}

// TestTakeKeepsNothing: rule 4: a letter that is handed in is neither kept nor written into, and what is handed out is new memory.
func TestTakeKeepsNothing(t *testing.T) {
	for _, l := range []session.Letter{from(seq(3)), from(ack(5), seq(3)), from(mine(10), seq(1))} {
		s, p := busy(t, 9)
		room := text(40)
		l.Body = room[:20]
		x, e := s.Take(l)
		p.take(l)
		if !x.Got || e != api.OK || !bytes.Equal(room, text(40)) {
			t.Errorf("%+v, %d; written into: %q", x, e, room)
		}
		spoil(room, '!')
		if !bytes.Equal(x.Body, text(20)) {
			t.Errorf("kept: %q", x.Body)
		}
		room = text(40)
		l.Body = room[:20]
		spoil(x.Body, '?')
		_ = append(x.Body, "??????"...)
		if !bytes.Equal(room, text(40)) {
			t.Errorf("written into: %q", room)
		}
		has(t, s, p)
		comes(t, s, p)
	}
}

// TestTakenIsNew: rule 4: what was handed out is none of the letter's memory, nor of the session's, and stays.
func TestTakenIsNew(t *testing.T) {
	s, _ := busy(t, 9)
	l := from(seq(3), sized(20))
	x, _ := s.Take(l)
	spoil(x.Body, '?')
	_ = append(x.Body, "??????"...)
	if !bytes.Equal(l.Body, text(20)) {
		t.Errorf("the letter's: %q", l.Body)
	}
	y, _ := s.Take(from(seq(4), sized(30)))
	takes(t, s, from(says(5, "five")), taken{"five", true, false})
	takes(t, s, from(mine(10), says(1, "one")), taken{"one", true, true})
	pushes(t, s, "new", api.OK)
	if !bytes.Equal(y.Body, text(30)) {
		t.Errorf("%q", y.Body)
	}
	has(t, s, plain{mine: 5, peer: 10, next: 1, got: 1, queue: []string{"new"}})
}

// TestTakeWritesIntoNothing: rule 4: nor is a letter written into that does nothing, or is refused.
func TestTakeWritesIntoNothing(t *testing.T) {
	s, _ := busy(t, 9)
	for _, l := range []session.Letter{from(seq(1)), from(seq(9)), from(mine(1), seq(3)), from(mine(0), seq(3)), from(peer(0), seq(3)), from(mine(10), peer(0), seq(1))} {
		room := text(40)
		l.Body = room[:20]
		if x, _ := s.Take(l); x.Got || !bytes.Equal(room, text(40)) {
			t.Errorf("%+v: %+v; %q", l, x, room)
		}
	}
}
