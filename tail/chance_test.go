package tail_test

import "math"

// chance tells numbers that look like any, always the same.
type chance uint64

func (c *chance) below(n int) int {
	*c = *c*6364136223846793005 + 1442695040888963407
	return int(uint64(*c) >> 33 % uint64(n))
}

// one is one of these.
func one[T any](c *chance, l ...T) T { return l[c.below(len(l))] }

// edges are numbers at an edge of something.
func edges() []int {
	return []int{math.MinInt, -1 << 32, -2, -1, 0, 1, 2, 15, 16, 31, 32, 1<<31 - 1, 1 << 31, 1<<31 + 1, 1 << 32, 1 << 40, math.MaxInt}
}

// edge is one of them.
func (c *chance) edge() int { return one(c, edges()...) }
