package model_test

import (
	"math"
	"testing"

	"rutter/api"
)

// chance tells numbers that look like any, always the same.
type chance uint64

func (c *chance) below(n int) int {
	*c = *c*6364136223846793005 + 1442695040888963407
	return int(uint64(*c) >> 33 % uint64(n))
}

// one is one of these.
func one[T any](c *chance, l ...T) T { return l[c.below(len(l))] }

// edge is a number at an edge of something.
func (c *chance) edge() int {
	return one(c, math.MinInt, -2, -1, 0, 1, 13, 15, 16, 31, 32, 255, 65536, 1<<32, 1<<32+1, 1<<40, 1<<40+1, 1<<48, math.MaxInt)
}

// port and chassis are one of few, seldom any.
func (c *chance) port() int {
	if c.below(20) == 0 {
		return c.below(32)
	}
	return one(c, 0, 3, 4, 31)
}

func (c *chance) chassis() int {
	if c.below(40) == 0 {
		return c.below(16)
	}
	return c.below(4)
}

// of is the row of a port; 0, if it has none.
func of(rows []api.Row, port int) api.Row {
	for _, r := range rows {
		if r.Port == port {
			return r
		}
	}
	return api.Row{}
}

// fitting is an op that may be done with a row.
func (c *chance) fitting(r api.Row) api.Op {
	switch {
	case r.Ver == 0 || r.Phase == api.Gone:
		return api.AddPort
	case r.Phase == api.Bound:
		return one(c, api.Start, api.Start, api.Start, api.RemovePort)
	case r.Phase == api.Moving:
		return one(c, api.Query, api.Query, api.Query, api.Query, api.Commit, api.Abort)
	}
	return one(c, api.Query, api.Commit)
}

// call is any call: most often one on what is there.
func (c *chance) call(rows []api.Row) api.Call {
	x := asks(api.Op(2+c.below(6)), c.port(), c.chassis())
	switch k := c.below(8); {
	case k == 0:
		x.Op = one(c, api.AddChassis, api.AddChassis, api.RemoveChassis)
	case k == 1:
		x.MAC = mac(c.port())
	case k < 7:
		x.Op = c.fitting(of(rows, x.Port))
	}
	switch c.below(80) {
	case 0:
		x.Op = api.Op(c.edge())
	case 1:
		x.Port = c.edge()
	case 2:
		x.Chassis = c.edge()
	case 3:
		x.MAC = uint64(c.edge())
	}
	return x
}

// few tells of which things that were seen there were too few.
func few(t *testing.T, seen, least map[string]int) {
	t.Helper()
	for k, n := range least {
		if seen[k] < n {
			t.Errorf("of %s too few: %d; %v", k, seen[k], seen)
		}
	}
}
