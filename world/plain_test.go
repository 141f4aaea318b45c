package world_test

import (
	"fmt"
	"strings"

	"rutter/agent"
	"rutter/api"
	"rutter/ctl"
	"rutter/disk"
	"rutter/dpath"
	"rutter/net"
	"rutter/tunnel"
	"rutter/world"
)

// plain is what a world is, told anew in the simplest way, as the chapter has it; what a file, a controller and an agent do it asks of their own packages.
type plain struct {
	span, life, now int
	f               *disk.File
	c               *ctl.Ctl
	agents          [16]*agent.Agent
	started         [16]int
	items           []net.Item
	lost, ids       int
	events          []world.Event
}

// is tells whether n is from least to most.
func is(n, least, most int) bool { return least <= n && n <= most }

// plainOf is one at its beginning.
func plainOf(span, life int) *plain {
	p := &plain{span: span, life: life}
	p.f, _ = disk.New(1 << 20)
	p.c, _ = ctl.Open(p.f, span, 0)
	return p
}

func (p *plain) API(x api.Call) (api.Row, api.Errno) {
	if p.c == nil {
		return api.Row{}, api.ErrDown
	}
	return p.c.Do(x)
}

func (p *plain) Break(x api.Call, keep int) api.Errno {
	if p.c == nil {
		return api.ErrDown
	}
	e := p.c.Half(x)
	p.f.Crash(keep)
	p.c = nil
	return e
}

func (p *plain) Tick(n int) api.Errno {
	if !is(n, 1, 1099511627776) || p.now+n > 1099511627776 {
		return api.ErrArg
	}
	p.now += n
	if p.c != nil {
		p.c.Tick(p.now)
	}
	return api.OK
}

// isUp tells whether who is, and whether there can be such a one.
func (p *plain) isUp(who int) (bool, bool) {
	if who == -1 {
		return p.c != nil, true
	}
	if !is(who, 0, 15) {
		return false, false
	}
	return p.agents[who] != nil, true
}

// wants tells why nothing is done with who, if he isn't there, or isn't up.
func (p *plain) wants(who int) api.Errno {
	goes, may := p.isUp(who)
	if !may {
		return api.ErrArg
	}
	if !goes {
		return api.ErrDown
	}
	return api.OK
}

func (p *plain) Start(who int) api.Errno {
	switch e := p.wants(who); {
	case e == api.OK:
		return api.ErrTwice
	case e == api.ErrArg:
		return e
	case who == -1:
		p.c, e = ctl.Open(p.f, p.span, p.now)
		return e
	}
	p.started[who]++
	p.agents[who], _ = agent.New(who, p.started[who], p.life)
	return api.OK
}

func (p *plain) Crash(who int) api.Errno {
	if e := p.wants(who); e != api.OK {
		return e
	}
	if who == -1 {
		p.f.Crash(0)
		p.c = nil
	} else {
		p.agents[who] = nil
	}
	return api.OK
}

// put puts an item into the net, if there is room.
func (p *plain) put(kind, chassis int, b []byte) {
	if len(p.items) == 4096 {
		p.lost++
		return
	}
	p.items = append(p.items, net.Item{Kind: kind, Chassis: chassis, Bytes: b})
}

func (p *plain) Step(who int) api.Errno {
	if e := p.wants(who); e != api.OK {
		return e
	}
	if who >= 0 {
		for _, b := range p.agents[who].Out() {
			p.put(0, who, b)
		}
		return api.OK
	}
	for n := range 16 {
		for _, b := range p.c.Out(n) {
			p.put(1, n, b)
		}
	}
	return api.OK
}

// take takes the item at a place.
func (p *plain) take(i int) (net.Item, api.Errno) {
	if !is(i, 0, len(p.items)-1) {
		return net.Item{}, api.ErrNone
	}
	x := p.items[i]
	p.items = append(append([]net.Item{}, p.items[:i]...), p.items[i+1:]...)
	return x, api.OK
}

// becomes notes what became of a frame.
func (p *plain) becomes(x world.Event, o dpath.Outcome) {
	x.Time, x.Done = p.now, o.Kind
	if o.Kind == 1 {
		x.Port, x.Gen, x.Stamp = o.Port, o.Gen, o.Stamp
	}
	if o.Kind == 2 {
		x.To, x.Port, x.Gen = o.Packet.To, o.Packet.Port, o.Packet.Gen
		b, _ := tunnel.Encode(o.Packet)
		p.put(2, o.Packet.To, b)
	}
	p.events = append(p.events, x)
}

func (p *plain) Deliver(i int) api.Errno {
	x, e := p.take(i)
	if e != api.OK {
		return e
	}
	n := x.Chassis
	if x.Kind == 0 && p.c != nil {
		m, e := p.c.Take(n, x.Bytes)
		if e == api.OK && m.Kind == 2 {
			p.events = append(p.events, world.Event{Time: p.now, Chassis: n, Port: m.Port, Ver: m.Ver})
		}
	}
	if x.Kind == 1 && p.agents[n] != nil {
		p.agents[n].Take(x.Bytes, p.now)
	}
	if x.Kind == 2 && p.agents[n] != nil {
		y, _ := tunnel.Decode(x.Bytes)
		o, e := p.agents[n].Tunnel(y, p.now)
		if e == api.OK {
			p.becomes(world.Event{What: 2, Chassis: n, Kind: y.Kind, ID: y.ID, Origin: y.Origin, From: y.From}, o)
		}
	}
	return api.OK
}

func (p *plain) Drop(i int) api.Errno {
	_, e := p.take(i)
	return e
}

func (p *plain) Double(i int) api.Errno {
	if !is(i, 0, len(p.items)-1) {
		return api.ErrNone
	}
	if len(p.items) == 4096 {
		return api.ErrFull
	}
	x := p.items[i]
	p.items = append(p.items, x)
	if x.Kind == 2 {
		y, _ := tunnel.Decode(x.Bytes)
		p.events = append(p.events, world.Event{What: 3, Time: p.now, Chassis: x.Chassis, ID: y.ID})
	}
	return api.OK
}

func (p *plain) Inject(n int, f api.Frame) (int, api.Errno) {
	if !is(n, 0, 15) {
		return 0, api.ErrArg
	}
	if p.agents[n] == nil {
		return 0, api.ErrDown
	}
	o, e := p.agents[n].Guest(f, p.now, p.ids+1)
	if e != api.OK {
		return 0, e
	}
	p.ids++
	p.becomes(world.Event{What: 1, Chassis: n, ID: p.ids, Origin: n, From: n}, o)
	return p.ids, api.OK
}

// who tells all that can be told of who is up.
func (p *plain) who(n int) string {
	switch goes, _ := p.isUp(n); {
	case !goes:
		return "down"
	case n == -1:
		return ofCtl(p.c)
	}
	return ofAgent(p.agents[n], p.now)
}

// look tells of a plain one what look tells of a world.
func (p *plain) look() string {
	l := []string{fmt.Sprintf("now %d, %+v", p.now, p.events), fmt.Sprintf("%d lost of the net, which has %v", p.lost, p.items)}
	for _, who := range everyone() {
		l = append(l, p.who(who))
	}
	return strings.Join(l, "\n")
}
