package agent_test

import (
	"slices"
	"testing"

	"rutter/agent"
	"rutter/api"
	"rutter/control"
	"rutter/dpath"
	"rutter/phase"
	"rutter/session"
	"rutter/tunnel"
)

// hosts and ports are how many chassis and ports a realm has.
const (
	hosts = 4
	ports = 5
)

// host is a chassis: its agent, of which boot it is, what rows came to that boot in letters to it, and which it had; and the controller's line to it.
type host struct {
	*agent.Agent
	boot   int
	heard  map[api.Row]bool
	had    []api.Row
	line   *session.Session
	behind bool
}

// realm is chassis, a controller that does no more than the ones that call for it, and what is on its way between them: up, down, and as packets.
type realm struct {
	hosts    [hosts]*host
	rows     [ports]api.Row
	boot     int
	up, down [hosts][][]byte
	data     [][]byte
	now, id  int
	owner    map[[2]int]int // of a port and a generation, who delivered
	seen     map[string]int
}

// realmOf is one whose ports are all at chassis 0.
func realmOf(t *testing.T) *realm {
	t.Helper()
	m := &realm{owner: map[[2]int]int{}, seen: map[string]int{}}
	for i := range m.hosts {
		m.hosts[i] = &host{}
		m.starts(t, i)
	}
	for i := range m.rows {
		m.rows[i] = bound(i, 0, 1, 1)
	}
	m.restarts(t)
	return m
}

// starts starts an agent anew: it has nothing.
func (m *realm) starts(t *testing.T, i int) {
	t.Helper()
	h := m.hosts[i]
	h.boot++
	h.Agent, h.heard, h.had = made(t, i, h.boot, life), map[api.Row]bool{}, nil
	m.seen["agents"]++
}

// restarts starts the controller anew: it has its rows, and lines of another boot.
func (m *realm) restarts(t *testing.T) {
	t.Helper()
	m.boot++
	m.seen["controllers"]++
	for _, h := range m.hosts {
		s, e := session.New(m.boot)
		if e != api.OK {
			t.Fatalf("New %d: %d", m.boot, e)
		}
		h.line, h.behind = s, false
	}
}

// pushes pushes rows to a chassis that is known; if there is no room for one, it is behind.
func (m *realm) pushes(t *testing.T, h *host, l ...api.Row) {
	t.Helper()
	for _, r := range l {
		if h.line.Peer() != 0 && h.line.Push(body(t, ofRow(r))) != api.OK {
			h.behind = true
		}
	}
}

// changes makes a port's row what an act makes of it, if that is done, and tells it.
func (m *realm) changes(t *testing.T, r api.Row, e api.Errno) {
	t.Helper()
	if e != api.OK {
		return
	}
	m.rows[r.Port] = r
	m.seen["acts"]++
	for _, h := range m.hosts {
		m.pushes(t, h, r)
	}
}

// acts does any act with any port.
func (m *realm) acts(t *testing.T, c *chance) {
	t.Helper()
	r, to := m.rows[c.below(ports)], c.below(hosts)
	var e api.Errno
	switch c.below(8) {
	case 0:
		r, e = phase.Abort(r, m.now)
	case 1, 2:
		if r.Phase == api.Moved || c.below(4) == 0 {
			r, e = phase.Commit(r, m.now)
		}
	case 3, 4:
		if r.Phase == api.Gone {
			r, e = phase.Again(r, r.MAC, to, m.now)
		} else if c.below(4) == 0 {
			r, e = phase.Drop(r, m.now)
		}
	default:
		r, e = phase.Start(r, to, m.now)
	}
	if r != m.rows[r.Port] {
		m.changes(t, r, e)
	}
}

// comesUp lets the controller take a letter of a chassis.
func (m *realm) comesUp(t *testing.T, i int, b []byte) {
	t.Helper()
	h := m.hosts[i]
	l, e := session.Decode(b)
	if e != api.OK {
		t.Fatalf("%x: %d", b, e)
	}
	taken, e := h.line.Take(l)
	if e != api.OK {
		m.seen["stale up"]++
		return
	}
	h.behind = h.behind || taken.Reset
	if h.behind && h.line.Len() == 0 {
		h.behind = false
		m.pushes(t, h, m.rows[:]...)
	}
	if !taken.Got {
		return
	}
	x, e := control.Decode(taken.Body)
	if e != api.OK {
		t.Fatalf("%x: %d", taken.Body, e)
	}
	r := m.rows[x.Port]
	switch x.Kind {
	case 2:
		m.seen["awake"]++
		r, e := phase.Awake(r, i, x.Ver, m.now)
		m.changes(t, r, e)
	case 3:
		m.seen["flows"]++
		if r.Phase != api.Gone && r.Owner != i && m.hosts[r.Owner].line.Peer() != 0 {
			m.hosts[r.Owner].line.Push(taken.Body)
		}
	default:
		t.Fatalf("an agent tells %+v", x)
	}
}

// comesDown lets an agent take a letter.
func (m *realm) comesDown(t *testing.T, i int, b []byte) {
	t.Helper()
	h := m.hosts[i]
	l, e := session.Decode(b)
	if e != api.OK {
		t.Fatalf("%x: %d", b, e)
	}
	if x, e := control.Decode(l.Body); e == api.OK && x.Kind == 1 && l.Peer == h.boot {
		h.heard[x.Row] = true
	}
	if e := h.Take(b, m.now); e == api.ErrStale {
		m.seen["stale down"]++
	} else if e != api.OK {
		t.Fatalf("%x: %d", b, e)
	}
	m.looks(t, i)
}

// looks looks at P16.2: of an agent no row goes, none's version falls, and each one was told to this boot.
func (m *realm) looks(t *testing.T, i int) {
	t.Helper()
	h := m.hosts[i]
	rows := h.Rows()
	for _, was := range h.had {
		at := slices.IndexFunc(rows, func(r api.Row) bool { return r.Port == was.Port })
		if at < 0 || rows[at].Ver < was.Ver || rows[at].Ver == was.Ver && rows[at] != was {
			t.Fatalf("chassis %d: had %+v; has %+v", i, was, rows)
		}
	}
	for _, r := range rows {
		if !h.heard[r] {
			t.Fatalf("chassis %d, boot %d: has %+v, which it was not told", i, h.boot, r)
		}
	}
	h.had = rows
}

// becomes looks at P16.2: what is delivered is so by a row whose Owner is this chassis, at its Gen, not below the STAMP; and what is sent goes on its way.
func (m *realm) becomes(t *testing.T, i int, o dpath.Outcome) {
	t.Helper()
	h := m.hosts[i]
	m.seen[[]string{"dropped", "delivered", "sent"}[o.Kind]]++
	switch o.Kind {
	case 1:
		at := slices.IndexFunc(h.had, func(r api.Row) bool { return r.Port == o.Port })
		if at < 0 || h.had[at].Owner != i || h.had[at].Gen != o.Gen || o.Stamp > o.Gen {
			t.Fatalf("chassis %d delivers %+v by %+v", i, o, h.had)
		}
		who := [2]int{o.Port, o.Gen}
		if first, ok := m.owner[who]; ok && first != i {
			t.Fatalf("chassis %d delivers %+v, as did %d", i, o, first)
		}
		m.owner[who] = i
	case 2:
		b, e := tunnel.Encode(o.Packet)
		if e != api.OK || o.Packet.From != i {
			t.Fatalf("chassis %d sends %+v: %d", i, o, e)
		}
		m.data = append(m.data, b)
	}
	m.looks(t, i)
}

// injects lets a guest send something: to a port, or, where that is to wake up, that it is there.
func (m *realm) injects(t *testing.T, c *chance) {
	t.Helper()
	port, i := c.below(ports), c.below(hosts)
	f := talks(t, mac(port), nth(c.below(9)))
	if r := m.rows[port]; c.below(3) == 0 {
		f = rarp(t, mac(port))
		if r.Phase == api.Moving && c.below(3) > 0 {
			i = r.Target
		}
	}
	m.id++
	o, e := m.hosts[i].Guest(f, m.now, m.id)
	if e != api.OK {
		t.Fatalf("%+v: %d", f, e)
	}
	m.becomes(t, i, o)
}

// draw takes something of what is on its way, most often the first: it may stay there, so that it comes again, or come never.
func draw(c *chance, l *[][]byte) ([]byte, bool) {
	if len(*l) == 0 {
		return nil, false
	}
	at := 0
	if c.below(4) == 0 {
		at = c.below(len(*l))
	}
	b := (*l)[at]
	if c.below(5) > 0 || len(*l) > 20 {
		*l = slices.Delete(*l, at, at+1)
	}
	return b, c.below(6) > 0
}

// step does one thing.
func (m *realm) step(t *testing.T, c *chance) {
	t.Helper()
	i := c.below(hosts)
	h := m.hosts[i]
	switch n := c.below(100); {
	case n < 3:
		m.acts(t, c)
	case n < 8:
		m.up[i] = append(m.up[i], h.Out()...)
	case n < 14:
		for _, l := range h.line.Out() {
			m.down[i] = append(m.down[i], letter(t, l))
		}
	case n < 40:
		if b, ok := draw(c, &m.up[i]); ok {
			m.comesUp(t, i, b)
		}
	case n < 70:
		if b, ok := draw(c, &m.down[i]); ok {
			m.comesDown(t, i, b)
		}
	case n < 84:
		m.injects(t, c)
	case n < 97:
		b, ok := draw(c, &m.data)
		if !ok {
			break
		}
		p, e := tunnel.Decode(b)
		if e != api.OK {
			t.Fatalf("%x: %d", b, e)
		}
		o, e := m.hosts[p.To].Tunnel(p, m.now)
		if e != api.OK {
			t.Fatalf("%+v: %d", p, e)
		}
		m.becomes(t, p.To, o)
	case n < 99:
		m.now++
	case c.below(12) == 0:
		m.restarts(t)
	case c.below(4) == 0:
		m.starts(t, i)
	}
}

// TestNotBelow: P16.2: along many letters, frames and packets, lost, doubled and late, and agents and controllers that are started anew.
func TestNotBelow(t *testing.T) {
	seen := map[string]int{}
	for seed := range 60 {
		c, m := chance(seed), realmOf(t)
		for range 8000 {
			m.step(t, &c)
		}
		for k, n := range m.seen {
			seen[k] += n
		}
	}
	for k, least := range map[string]int{"agents": 500, "controllers": 200, "acts": 2000, "awake": 300, "flows": 200, "stale up": 10, "stale down": 1000, "dropped": 9000, "delivered": 9000, "sent": 9000} {
		if seen[k] < least {
			t.Errorf("of %s too few: %v", k, seen)
		}
	}
}
