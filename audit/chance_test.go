package audit_test

// chance tells numbers that look like any, always the same.
type chance uint64

func (c *chance) below(n int) int {
	*c = *c*6364136223846793005 + 1442695040888963407
	return int(uint64(*c) >> 33 % uint64(n))
}

// one is one of these.
func one[T any](c *chance, l ...T) T { return l[c.below(len(l))] }

// edge is a number at an edge of something.
func (c *chance) edge() int { return one(c, edges()...) }
