package flow_test

import (
	"cmp"
	"slices"
	"testing"

	"rutter/flow"
)

// ranked are entries of few PRIOs, of which some fit a key and some don't, and which do each another thing.
func ranked() []flow.Entry {
	return []flow.Entry{
		entry(prio(2), does(1, 1, 1)), entry(prio(7), port(4), mac(4), does(2, 2, 2)), entry(prio(5), ins(3), does(2, 3, 3)), entry(prio(-1), does(0, 4, 4)),
		entry(prio(5), ins(6), does(1, 5, 5)), entry(prio(2), does(1, 6, 6)), entry(prio(6), stamps(4, 4), does(2, 7, 7)), entry(prio(5), does(0, 8, 8)), entry(prio(0), not(0), does(1, 9, 9)),
	}
}

// rankKeys are keys of which some are fitted by few of those.
func rankKeys() []flow.Key {
	return []flow.Key{key(0), key(1), key(2), key(0, keyMAC(4)), key(1, keyPort(4)), key(0, stamp(4)), key(2, stamp(4)), key(1, origin(9)), key(1, origin(5)), key(2, stamp(5)), key(3)}
}

// stays checks that a key's action is the same in a table of other entries.
func stays(t *testing.T, k flow.Key, was *flow.Table, l []flow.Entry) {
	t.Helper()
	a, ok := was.Look(k)
	if b, too := made(t, l...).Look(k); a != b || ok != too {
		t.Errorf("%+v: %+v, %t; was %+v, %t; of %+v", k, b, too, a, ok, was.Entries())
	}
}

// lookedUp is the entry whose action a table tells.
func lookedUp(l []flow.Entry, k flow.Key) (flow.Entry, bool) {
	i := plainLook(l, k)
	if i < 0 {
		return flow.Entry{}, false
	}
	return l[i], true
}

// TestLesserGo: P13.2: what is looked up stays when entries of lesser PRIO go: each alone, any of them, all.
func TestLesserGo(t *testing.T) {
	l := ranked()
	s := made(t, l...)
	for _, k := range rankKeys() {
		best, ok := lookedUp(l, k)
		for some := range 1 << len(l) {
			left := []flow.Entry{}
			for i, e := range l {
				if lesser := !ok || e.Prio < best.Prio; !lesser || some>>i&1 == 1 {
					left = append(left, e)
				}
			}
			stays(t, k, s, left)
		}
	}
}

// TestLesserCome: P13.2: the same, told from behind: lesser ones that come, wherever, turn nothing.
func TestLesserCome(t *testing.T) {
	l := ranked()
	s := made(t, l...)
	for _, k := range rankKeys() {
		best, ok := lookedUp(l, k)
		if !ok {
			continue
		}
		for at := range len(l) + 1 {
			for n := 1; n < 9; n++ {
				stays(t, k, s, slices.Insert(slices.Clone(l), at, entry(prio(best.Prio-n), does(2, 30, 15))))
			}
		}
	}
}

// turned are entries of which two places were turned about.
func turned(l []flow.Entry, i, j int) []flow.Entry {
	l = slices.Clone(l)
	l[i], l[j] = l[j], l[i]
	return l
}

// TestNeighboursTurned: P13.2: when two neighbours of unlike PRIO are turned about, each key's action stays; also when the first goes on so, past all of other PRIOs.
func TestNeighboursTurned(t *testing.T) {
	l := ranked()
	s := made(t, l...)
	for i := range l {
		now := l
		for j := i + 1; j < len(l) && l[j].Prio != l[i].Prio; j++ {
			now = turned(now, j-1, j)
			for _, k := range rankKeys() {
				stays(t, k, s, now)
			}
		}
	}
}

// TestLesserTurned: P13.2: when one of lesser PRIO is turned about with any of another PRIO that isn't of the greatest that fits, it stays.
func TestLesserTurned(t *testing.T) {
	l := ranked()
	s := made(t, l...)
	for _, k := range rankKeys() {
		best, _ := lookedUp(l, k)
		for i := range l {
			for j := range l {
				if l[i].Prio != l[j].Prio && l[i].Prio < best.Prio && l[j].Prio != best.Prio {
					stays(t, k, s, turned(l, i, j))
				}
			}
		}
	}
}

// TestTurnedPastNone: P13.2: any two of unlike PRIO, far from one another, if none of the PRIO of either stands between them.
func TestTurnedPastNone(t *testing.T) {
	l := ranked()
	s := made(t, l...)
	for i := range l {
		for j := i + 1; j < len(l); j++ {
			alike := func(e flow.Entry) bool { return e.Prio == l[i].Prio || e.Prio == l[j].Prio }
			if l[i].Prio == l[j].Prio || slices.ContainsFunc(l[i+1:j], alike) {
				continue
			}
			for _, k := range rankKeys() {
				stays(t, k, s, turned(l, i, j))
			}
		}
	}
}

// TestByRankAlone: P13.2: in any order that leaves those of one PRIO in theirs, it stays: sorted, too, from the greatest on and from the least.
func TestByRankAlone(t *testing.T) {
	l := ranked()
	s := made(t, l...)
	up, down := slices.Clone(l), slices.Clone(l)
	slices.SortStableFunc(up, func(a, b flow.Entry) int { return cmp.Compare(a.Prio, b.Prio) })
	slices.SortStableFunc(down, func(a, b flow.Entry) int { return cmp.Compare(b.Prio, a.Prio) })
	for _, k := range rankKeys() {
		stays(t, k, s, up)
		stays(t, k, s, down)
	}
}

// TestAlikeTurned: P13.1: those of one PRIO, turned about, are looked up in their new order: the first of them.
func TestAlikeTurned(t *testing.T) {
	l := numbered(4)
	l[3].Prio = 4
	looks(t, made(t, l...), key(0), l[0])
	looks(t, made(t, turned(l, 0, 2)...), key(0), l[2])
	looks(t, made(t, turned(l, 0, 1)...), key(0), l[1])
	looks(t, made(t, turned(l, 0, 3)...), key(0), l[1])
	looks(t, made(t, l[1:]...), key(0), l[1])
	looks(t, made(t, l[3:]...), key(0), l[3])
}

// TestRankOfAny: P13.2: any tables: each lesser one gone, all of them gone, neighbours turned about, any order by turns of neighbours.
func TestRankOfAny(t *testing.T) {
	c, found := chance(2), 0
	for range 400 {
		l := c.entries(1 + c.below(30))
		s := made(t, l...)
		for range 6 {
			k := c.key()
			best, ok := lookedUp(l, k)
			if ok {
				found++
			}
			lesser := func(e flow.Entry) bool { return !ok || e.Prio < best.Prio }
			stays(t, k, s, slices.DeleteFunc(slices.Clone(l), lesser))
			stays(t, k, s, slices.DeleteFunc(slices.Clone(l), func(e flow.Entry) bool { return lesser(e) && c.below(2) == 0 }))
			now := slices.Clone(l)
			for range 40 {
				if i := c.below(len(l)); i > 0 && now[i].Prio != now[i-1].Prio {
					now = turned(now, i, i-1)
				}
			}
			stays(t, k, s, now)
		}
	}
	if found < 500 {
		t.Errorf("found %d times", found)
	}
}
