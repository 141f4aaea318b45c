package model_test

import (
	"slices"

	"rutter/api"
)

// plain is what a model is, told anew in the simplest way, acts and all. A row of version 0 is none; a copy is a clone.
type plain struct {
	span, now int
	there     [16]bool
	rows      [32]api.Row
}

// is tells whether n is from least to most.
func is(n, least, most int) bool { return least <= n && n <= most }

func (p *plain) do(x api.Call) (api.Row, api.Errno) {
	switch x.Op {
	case 0:
		if !is(x.Chassis, 0, 15) {
			return api.Row{}, 1
		}
		if p.there[x.Chassis] {
			return api.Row{}, 5
		}
		p.there[x.Chassis] = true
		return api.Row{}, 0
	case 1:
		return api.Row{}, p.removes(x.Chassis)
	case 2, 3, 4, 5, 6, 7:
		var r api.Row
		if is(x.Port, 0, 31) {
			r = p.rows[x.Port]
		}
		next, e := p.acted(x, r)
		if e == 0 && x.Op != 7 {
			e = p.keeps(next)
		}
		if e == 0 {
			return next, 0
		}
		return api.Row{}, e
	}
	return api.Row{}, 1
}

func (p *plain) removes(n int) api.Errno {
	if !is(n, 0, 15) || !p.there[n] {
		return 4
	}
	for _, r := range p.rows {
		if r.Ver > 0 && (r.Owner == n || r.Target == n || r.Old == n) {
			return 11
		}
	}
	p.there[n] = false
	return 0
}

// keeps has a row, if it may be beside the others.
func (p *plain) keeps(r api.Row) api.Errno {
	for _, n := range []int{r.Owner, r.Target, r.Old} {
		if n != -1 && !p.there[n] {
			return 4
		}
	}
	for _, x := range p.rows {
		if x.Ver > 0 && x.Port != r.Port && x.MAC == r.MAC && x.Phase < 3 && r.Phase < 3 {
			return 5
		}
	}
	p.rows[r.Port] = r
	return 0
}

// acted is what an op makes of a port's row.
func (p *plain) acted(x api.Call, r api.Row) (api.Row, api.Errno) {
	here := r.Ver > 0 && r.Phase < 3
	if x.Op == 2 {
		if here {
			return r, 5
		}
		if !is(x.Port, 0, 31) || x.MAC >= 281474976710656 || !is(x.Chassis, 0, 15) {
			return r, 1
		}
		return api.Row{Port: x.Port, MAC: x.MAC, Owner: x.Chassis, Target: -1, Old: -1, Gen: r.Gen + 1, Ver: r.Ver + 1, Since: p.now}, 0
	}
	if !here {
		return r, 4
	}
	next := r
	next.Ver, next.Since = r.Ver+1, p.now
	switch {
	case x.Op == 3 && r.Phase == 0:
		next.Phase, next.Owner = 3, -1
	case x.Op == 4 && !is(x.Chassis, 0, 15):
		return r, 1
	case x.Op == 4 && r.Phase == 0 && x.Chassis == r.Owner:
		return r, 9
	case x.Op == 4 && r.Phase == 0:
		next.Phase, next.Target = 1, x.Chassis
	case x.Op == 5 && r.Phase == 1:
		next.Phase, next.Old, next.Owner, next.Target, next.Gen = 2, r.Owner, r.Target, -1, r.Gen+1
	case x.Op == 5 && r.Phase == 2:
		next.Phase, next.Old = 0, -1
	case x.Op == 6 && r.Phase == 1:
		next.Phase, next.Target = 0, -1
	case x.Op == 7:
		return r, 0
	default:
		return r, 8
	}
	return next, 0
}

func (p *plain) tick(now int) api.Errno {
	if !is(now, p.now, 1099511627776) {
		return 1
	}
	p.now = now
	for port, r := range p.rows {
		if is(int(r.Phase), 1, 2) && now >= r.Since+p.span {
			p.do(api.Call{Op: [...]api.Op{1: 6, 2: 5}[r.Phase], Port: port})
		}
	}
	return 0
}

func (p *plain) awake(by, port, ver int) bool {
	if !is(port, 0, 31) || p.rows[port].Phase != 1 || p.rows[port].Ver != ver || p.rows[port].Target != by {
		return false
	}
	_, e := p.do(api.Call{Op: 5, Port: port})
	return e == 0
}

// all are the rows, by ports.
func (p *plain) all() []api.Row {
	return slices.DeleteFunc(slices.Clone(p.rows[:]), func(r api.Row) bool { return r.Ver == 0 })
}

func (p *plain) chassis() []int {
	var l []int
	for n, there := range p.there {
		if there {
			l = append(l, n)
		}
	}
	return l
}
