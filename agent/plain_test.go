package agent_test

import (
	"slices"

	"rutter/api"
	"rutter/arp"
	"rutter/bind"
	"rutter/control"
	"rutter/dpath"
	"rutter/ether"
	"rutter/flow"
	"rutter/inet"
	"rutter/session"
)

// plain is what an agent is, told anew in the simplest way, as the chapter has it: what was told stands as it says, and so do its session and its flows.
type plain struct {
	chassis, life         int
	mine, peer, next, got int
	queue                 []string
	rows                  map[int]api.Row
	waits                 [][2]int        // ports, and versions
	told                  map[[3]int]bool // kinds, ports, and versions
	records               []api.Record
}

// plainNew is a new one.
func plainNew(chassis, mine, life int) *plain {
	return &plain{chassis: chassis, life: life, mine: mine, next: 1, rows: map[int]api.Row{}, told: map[[3]int]bool{}}
}

// is tells whether n is from least to most.
func is(n, least, most int) bool { return least <= n && n <= most }

// isTime tells whether there can be such a time.
func isTime(now int) bool { return is(now, 0, 1099511627776) }

func (p *plain) push(body []byte) api.Errno {
	if len(body) < 1 || len(body) > 1000 {
		return api.ErrArg
	}
	if len(p.queue) >= 64 {
		return api.ErrFull
	}
	p.queue = append(p.queue, string(body))
	return api.OK
}

// out are the letters that go.
func (p *plain) out() []session.Letter {
	l := []session.Letter{{Mine: p.mine, Peer: p.peer, Ack: p.got}}
	for i, body := range p.queue {
		if i == 8 {
			break
		}
		l = append(l[:i], session.Letter{Mine: p.mine, Peer: p.peer, Ack: p.got, Seq: p.next + i, Body: []byte(body)})
	}
	return l
}

// all are the rows, by ports.
func (p *plain) all() []api.Row {
	var l []api.Row
	for port := range 32 {
		if r, ok := p.rows[port]; ok {
			l = append(l, r)
		}
	}
	return l
}

// living are the records that live at a time.
func (p *plain) living(now int) []api.Record {
	var l []api.Record
	for _, r := range p.records {
		if r.Until > now {
			l = append(l, r)
		}
	}
	return l
}

// track takes a record over, if there is room.
func (p *plain) track(x api.Record) {
	for i, r := range p.records {
		if r.Flow == x.Flow || r.Flow == back(x.Flow) {
			p.records[i].Until = max(r.Until, x.Until)
			return
		}
	}
	if len(p.records) < 16 {
		p.records = append(p.records, x)
	}
}

// tell pushes a message, if that was not told.
func (p *plain) tell(m api.Message) {
	what := [3]int{m.Kind, m.Port, m.Ver}
	if p.told[what] {
		return
	}
	b, e := control.Encode(m)
	if e == api.OK && p.push(b) == api.OK {
		p.told[what] = true
	}
}

func (p *plain) settle(now int) {
	for port := range 32 {
		r, ok := p.rows[port]
		for _, w := range slices.Clone(p.waits) {
			if w[0] != port {
				continue
			}
			if !ok || r.Phase != api.Moving || r.Target != p.chassis || r.Ver != w[1] {
				p.waits = slices.DeleteFunc(p.waits, func(x [2]int) bool { return x == w })
			} else {
				p.tell(api.Message{Kind: 2, Port: port, Ver: w[1]})
			}
		}
		if ok && r.Phase == api.Moved && r.Old == p.chassis {
			p.tell(api.Message{Kind: 3, Port: port, Ver: r.Ver, Records: p.living(now)})
		}
	}
}

func (p *plain) hear(body []byte, now int) {
	m, e := control.Decode(body)
	if e != api.OK {
		return
	}
	if m.Kind == 1 {
		if r, ok := p.rows[m.Row.Port]; !ok || m.Row.Ver > r.Ver {
			p.rows[m.Row.Port] = m.Row
		}
	}
	if r, ok := p.rows[m.Port]; m.Kind == 3 && ok && r.Owner == p.chassis {
		p.records = p.living(now)
		for _, x := range m.Records {
			if x.Until > now {
				p.track(x)
			}
		}
	}
}

func (p *plain) take(b []byte, now int) api.Errno {
	if !isTime(now) {
		return api.ErrArg
	}
	l, e := session.Decode(b)
	if e != api.OK {
		return e
	}
	if l.Mine < p.peer {
		return api.ErrStale
	}
	if l.Mine > p.peer {
		p.peer, p.queue, p.next, p.got = l.Mine, nil, 1, 0
		p.told = map[[3]int]bool{}
	}
	if l.Peer == p.mine {
		for len(p.queue) > 0 && p.next <= l.Ack {
			p.queue = p.queue[1:]
			p.next++
		}
		if l.Seq == p.got+1 {
			p.got = l.Seq
			p.hear(l.Body, now)
		}
	}
	p.settle(now)
	return api.OK
}

// action is what the first row does with a key that does something.
func (p *plain) action(k flow.Key) flow.Action {
	for _, r := range p.all() {
		if a := bind.Means(r, p.chassis, k); a.Kind != 0 {
			return a
		}
	}
	return flow.Action{}
}

// note notes a frame's flow, if that is of IPv4, and has one.
func (p *plain) note(f api.Frame, now int) {
	if f.Type != 2048 {
		return
	}
	x, _, e := inet.Parse(f.Load)
	if e == api.OK {
		p.records = p.living(now)
		p.track(api.Record{Flow: x, Until: min(now+p.life, 1<<40)})
	}
}

func (p *plain) guest(f api.Frame, now, id int) (dpath.Outcome, api.Errno) {
	b, e := ether.Encode(f)
	if !isTime(now) || e != api.OK || !isTime(id) { // an ID has the bounds of a time
		return dpath.Outcome{}, api.ErrArg
	}
	if mac, ok := arp.Announces(f); ok {
		for _, r := range p.all() {
			if r.MAC == mac && r.Phase == api.Moving && r.Target == p.chassis {
				p.waits = append(p.waits, [2]int{r.Port, r.Ver})
				p.settle(now)
				return dpath.Outcome{}, api.OK
			}
		}
	}
	a := p.action(flow.Key{MAC: f.Dst, Origin: -1})
	if a.Kind == 0 {
		return dpath.Outcome{}, api.OK
	}
	p.note(f, now)
	if a.Kind == 1 {
		return dpath.Outcome{Kind: 1, Port: a.Port, Gen: a.Gen, Stamp: a.Gen, Frame: b}, api.OK
	}
	return dpath.Outcome{Kind: 2, Packet: api.Packet{Kind: 1, Origin: p.chassis, From: p.chassis, To: a.To, Port: a.Port, Gen: a.Gen, ID: id, Frame: b}}, api.OK
}

// mayBe tells whether a packet may be.
func mayBe(p api.Packet) bool {
	if !is(p.Origin, 0, 15) || !is(p.From, 0, 15) || !is(p.To, 0, 15) || p.From == p.To {
		return false
	}
	if !is(p.Port, 0, 31) || !is(p.Gen, 1, 4294967296) || !is(p.ID, 0, 1099511627776) || !is(len(p.Frame), 14, 1514) {
		return false
	}
	return p.Kind == 1 && p.From == p.Origin || p.Kind == 2 && p.From != p.Origin && p.To != p.Origin
}

func (p *plain) tunnel(x api.Packet, now int) (dpath.Outcome, api.Errno) {
	if !isTime(now) || !mayBe(x) || x.To != p.chassis {
		return dpath.Outcome{}, api.ErrArg
	}
	a := p.action(flow.Key{In: int(x.Kind), Port: x.Port, Stamp: x.Gen, Origin: x.Origin})
	if a.Kind == 0 {
		return dpath.Outcome{}, api.OK
	}
	if f, e := ether.Decode(x.Frame); e == api.OK {
		p.note(f, now)
	}
	if a.Kind == 1 {
		return dpath.Outcome{Kind: 1, Port: a.Port, Gen: a.Gen, Stamp: x.Gen, Frame: x.Frame}, api.OK
	}
	return dpath.Outcome{Kind: 2, Packet: api.Packet{Kind: 2, Origin: x.Origin, From: p.chassis, To: a.To, Port: x.Port, Gen: a.Gen, ID: x.ID, Frame: x.Frame}}, api.OK
}

// idle tells whether nothing is to be told.
func (p *plain) idle() bool { return len(p.queue) == 0 && p.peer != 0 }
