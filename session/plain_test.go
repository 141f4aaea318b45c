package session_test

import (
	"strings"
	"testing"

	"rutter/api"
	"rutter/session"
)

// plain is what a session is, told anew in the simplest way, step by step as the chapter has it.
type plain struct {
	mine, peer, next, got int
	queue                 []string
}

// taken is what Take answers, bodies as texts.
type taken struct {
	body       string
	got, reset bool
}

func (p *plain) push(body string) api.Errno {
	if body == "" || len(body) > 1000 {
		return api.ErrArg
	}
	if len(p.queue) >= 64 {
		return api.ErrFull
	}
	p.queue = append(p.queue, body)
	return api.OK
}

func (p *plain) out() []session.Letter {
	l := []session.Letter{{Mine: p.mine, Peer: p.peer, Ack: p.got}}
	for i, body := range p.queue {
		if i == 8 {
			return l
		}
		l = append(l[:i], session.Letter{Mine: p.mine, Peer: p.peer, Ack: p.got, Seq: p.next + i, Body: []byte(body)})
	}
	return l
}

func (p *plain) take(l session.Letter) (taken, api.Errno) {
	var x taken
	if !mayBe(l) {
		return x, api.ErrArg
	}
	if l.Mine < p.peer {
		return x, api.ErrStale
	}
	if l.Mine > p.peer {
		p.peer, p.queue, p.next, p.got = l.Mine, nil, 1, 0
		x.reset = true
	}
	if l.Peer != p.mine {
		return x, api.OK
	}
	for len(p.queue) > 0 && p.next <= l.Ack {
		p.queue = p.queue[1:]
		p.next++
	}
	if l.Seq == p.got+1 {
		p.got = l.Seq
		x.body, x.got = string(l.Body), true
	}
	return x, api.OK
}

// told is what a session answered, bodies as texts.
func told(x session.Taken) taken { return taken{string(x.Body), x.Got, x.Reset} }

// sameLetters holds letters against each other.
func sameLetters(a, b []session.Letter) bool {
	for i := range min(len(a), len(b)) {
		if !same(a[i], b[i]) {
			return false
		}
	}
	return len(a) == len(b)
}

// made is a new session of a boot.
func made(t *testing.T, boot int) *session.Session {
	t.Helper()
	s, e := session.New(boot)
	if s == nil || e != api.OK {
		t.Fatalf("New %d: %v, %d", boot, s, e)
	}
	return s
}

// has checks what can be told of a session.
func has(t *testing.T, s *session.Session, p plain) {
	t.Helper()
	if l := s.Out(); s.Len() != len(p.queue) || s.Peer() != p.peer || !sameLetters(l, p.out()) {
		t.Errorf("Len %d, Peer %d, Out %+v; want %+v", s.Len(), s.Peer(), l, p)
	}
}

// pushes checks what Push answers.
func pushes(t *testing.T, s *session.Session, body string, e api.Errno) {
	t.Helper()
	if got := s.Push([]byte(body)); got != e {
		t.Errorf("Push of %d bytes: %d; want %d", len(body), got, e)
	}
}

// takes checks what Take answers without an error.
func takes(t *testing.T, s *session.Session, l session.Letter, want taken) {
	t.Helper()
	if x, e := s.Take(l); told(x) != want || e != api.OK {
		t.Errorf("Take of %+v: %+v, %d; want %+v", l, x, e, want)
	}
}

// refuses checks what Take answers with an error, and that it changes nothing.
func refuses(t *testing.T, s *session.Session, l session.Letter, e api.Errno) {
	t.Helper()
	n, peer, out := s.Len(), s.Peer(), s.Out()
	if x, got := s.Take(l); told(x) != (taken{}) || got != e {
		t.Errorf("Take of %+v: %+v, %d; want %d", l, x, got, e)
	}
	if s.Len() != n || s.Peer() != peer || !sameLetters(s.Out(), out) {
		t.Errorf("Take of %+v: Len %d, Peer %d, Out %+v; was %d, %d, %+v", l, s.Len(), s.Peer(), s.Out(), n, peer, out)
	}
}

// from is a letter of boot 9 to boot 5, with that changed.
func from(c ...change) session.Letter { return changed(session.Letter{Mine: 9, Peer: 5}, c) }

// says makes a letter one of a body.
func says(n int, body string) change {
	return func(l *session.Letter) { l.Seq, l.Body = n, []byte(body) }
}

// met is a session of boot 5 that knows boot 9, to which nothing came yet.
func met(t *testing.T) *session.Session {
	t.Helper()
	s := made(t, 5)
	takes(t, s, from(), taken{reset: true})
	return s
}

// texts are n bodies, each another one.
func texts(n int) []string {
	l := make([]string, n)
	for i := range l {
		l[i] = strings.Repeat(string(rune('a'+i%26)), 1+i)
	}
	return l
}

// busy is a session of boot 5 that knows boot 9, to which two bodies came, of whose own the first three went, and in whose queue are so many, numbered from 4 on.
func busy(t *testing.T, n int) (*session.Session, plain) {
	t.Helper()
	s := met(t)
	takes(t, s, from(says(1, "one")), taken{"one", true, false})
	takes(t, s, from(says(2, "two")), taken{"two", true, false})
	for _, body := range []string{"x", "y", "z"} {
		pushes(t, s, body, api.OK)
	}
	takes(t, s, from(ack(3)), taken{})
	l := texts(n)
	for _, body := range l {
		pushes(t, s, body, api.OK)
	}
	p := plain{mine: 5, peer: 9, next: 4, got: 2, queue: l}
	has(t, s, p)
	return s, p
}
