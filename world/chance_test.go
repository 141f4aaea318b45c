package world_test

import (
	"math"

	"rutter/api"
	"rutter/ctl"
)

// chance tells numbers that look like any, always the same.
type chance uint64

func (c *chance) below(n int) int {
	*c = *c*6364136223846793005 + 1442695040888963407
	return int(uint64(*c) >> 33 % uint64(n))
}

// one is one of these.
func one[T any](c *chance, l ...T) T { return l[c.below(len(l))] }

// edge is a number at an edge of something.
func (c *chance) edge() int {
	return one(c, math.MinInt, -2, -1, 0, 1, 13, 15, 16, 31, 32, 255, 65536, 1<<32, 1<<32+1, 1<<40, 1<<40+1, 1<<48, math.MaxInt)
}

// port and chassis are one of few, seldom any.
func (c *chance) port() int {
	if c.below(40) == 0 {
		return c.below(32)
	}
	return one(c, 0, 3, 4, 5)
}

func (c *chance) chassis() int {
	if c.below(40) == 0 {
		return c.below(16)
	}
	return c.below(4)
}

// row is a port's, of a controller, which may be down.
func row(l *ctl.Ctl, port int) api.Row {
	for _, r := range l.Rows() {
		if r.Port == port {
			return r
		}
	}
	return api.Row{}
}

// call is any call: most often one on what is there.
func (c *chance) call(l *ctl.Ctl) api.Call {
	port := c.port()
	x := api.Call{Op: api.Op(2 + c.below(6)), Port: port, Chassis: c.chassis(), MAC: mac(c.port())}
	switch k := c.below(8); {
	case k == 0:
		x.Op = one(c, api.AddChassis, api.AddChassis, api.RemoveChassis, api.Query)
	case k < 7:
		x.MAC = mac(port)
		switch r := row(l, port); {
		case r.Ver == 0 || r.Phase == api.Gone:
			x.Op = api.AddPort
		case r.Phase == api.Bound:
			x.Op = one(c, api.Start, api.Start, api.Start, api.Start, api.RemovePort)
		case r.Phase == api.Moving:
			x.Op = one(c, api.Query, api.Query, api.Query, api.Commit, api.Abort)
		default:
			x.Op = one(c, api.Query, api.Commit)
		}
	}
	switch c.below(80) {
	case 0:
		x.Op = api.Op(c.edge())
	case 1:
		x.Port = c.edge()
	case 2:
		x.Chassis = c.edge()
	case 3:
		x.MAC = uint64(c.edge())
	}
	return x
}
