package audit_test

import (
	"fmt"
	"slices"
	"testing"

	"rutter/api"
	"rutter/audit"
	"rutter/world"
)

// place is a generation of a port.
type place struct{ port, gen int }

// delivering tells whether an event delivers.
func delivering(x world.Event) bool { return (x.What == 1 || x.What == 2) && x.Done == 1 }

// keeps checks P21.3 of events with which nothing is wrong: at one port and generation all that deliver do so at one chassis, and no ID is delivered more often than once, and once for each time it is doubled.
func keeps(t testing.TB, l []world.Event) {
	t.Helper()
	for i, x := range l {
		if !delivering(x) {
			continue
		}
		times, most := 0, 1
		for j, y := range l {
			if delivering(y) && y.Port == x.Port && y.Gen == x.Gen && y.Chassis != x.Chassis {
				t.Fatalf("P21.3: at %d and at %d of %+v two chassis deliver", i, j, l)
			}
			if delivering(y) && y.ID == x.ID {
				times++
			}
			if y.What == 3 && y.ID == x.ID {
				most++
			}
		}
		if times > most {
			t.Fatalf("P21.3: %d is delivered %d times of %d, in %+v", x.ID, times, most, l)
		}
	}
}

// holds checks what Look tells of events against what is told anew, and of what it tells all that there is to it.
func holds(t testing.TB, l []world.Event) (int, audit.Fault) {
	t.Helper()
	i, f := audit.Look(l...)
	if j, g := plainLook(l); i != j || f != g {
		t.Fatalf("Look of %+v: %d, %d; want %d, %d", l, i, f, j, g)
	}
	if i < 0 {
		keeps(t, l)
	} else {
		keeps(t, l[:i])
	}
	return i, f
}

// begins checks that of each beginning of events Look tells -1, as long as what is wrong is not in it, and then always that.
func begins(t testing.TB, l []world.Event) {
	t.Helper()
	at, f := audit.Look(l...)
	for n := range len(l) + 1 {
		i, g := audit.Look(l[:n]...)
		if at < 0 || n <= at {
			if i != -1 || g != nothing {
				t.Fatalf("Look of the first %d of %+v: %d, %d; want none", n, l, i, g)
			}
		} else if i != at || g != f {
			t.Fatalf("Look of the first %d of %+v: %d, %d; want %d, %d", n, l, i, g, at, f)
		}
	}
}

// number is one of few, seldom any.
func (c *chance) number(most int) int {
	if c.below(60) == 0 {
		return c.edge()
	}
	return c.below(most)
}

// event is any one: most often one that is right, as far as that hangs on it alone; one of a port's generation is most often where all of these are.
func (c *chance) event() world.Event {
	x := world.Event{What: one(c, 0, 1, 1, 1, 2, 2, 2, 2, 3, 3), Time: c.below(9), Port: c.number(3), Gen: c.number(3), ID: c.number(90), Done: one(c, 0, 1, 1, 1, 2, 2)}
	x.Chassis, x.Stamp, x.Ver = (x.Port+x.Gen)&15, x.Gen, c.number(9)
	if x.Done != 1 || c.below(40) == 0 {
		x.Chassis = c.below(6)
	}
	if c.below(6) == 0 {
		x.ID = c.below(4)
	}
	x.Origin = x.Chassis
	if x.What == 2 {
		x.Origin = x.Chassis + 1 + c.below(3)
	}
	x.From, x.To = x.Origin, x.Chassis-1-c.below(2)
	if x.Kind = api.Kind(x.What - 1); x.What == 2 && (x.Done != 2 || c.below(12) == 0) && c.below(3) == 0 {
		x.Kind, x.From = api.Forward, x.Origin+1
	}
	if c.below(25) == 0 {
		c.spoils(&x)
	}
	return x
}

// spoils changes any field to any number.
func (c *chance) spoils(x *world.Event) {
	n := one(c, c.below(4), c.edge(), x.Chassis, x.Origin, x.Gen+1)
	switch c.below(12) {
	case 0:
		x.What = n
	case 1:
		x.Chassis = n
	case 2:
		x.Port = n
	case 3:
		x.Kind = api.Kind(n)
	case 4:
		x.ID = n
	case 5:
		x.Origin = n
	case 6:
		x.From = n
	case 7:
		x.Done = n
	case 8:
		x.To = n
	case 9:
		x.Gen = n
	case 10:
		x.Stamp = n
	case 11:
		x.Ver, x.Time = n, n
	}
}

// TestAny: P21.1, P21.3, P1: any events, held against what is told anew.
func TestAny(t *testing.T) {
	seen := map[string]int{}
	for round := range 20000 {
		c := chance(round)
		var l []world.Event
		for range c.below(40) {
			l = append(l, c.event())
		}
		i, f := holds(t, l)
		begins(t, l)
		seen[fmt.Sprintf("fault %d", f)]++
		if i > 9 {
			seen["late"]++
		}
		if i < 0 && len(l) > 9 {
			seen["long and right"]++
		}
		for id := range 4 {
			var want []int
			for _, x := range l {
				if x.ID == id && (x.What == 1 || x.What == 2) {
					want = append(want, x.Chassis)
				}
			}
			visits(t, id, l, want...)
		}
	}
	for k, n := range map[string]int{"fault 0": 2000, "fault 1": 500, "fault 2": 500, "fault 3": 200, "fault 4": 500, "fault 5": 200, "late": 1000, "long and right": 300} {
		if seen[k] < n {
			t.Errorf("of %s too few: %v", k, seen)
		}
	}
}

// TestAnyNumbers: P21.1, P21.3, P1: events of any numbers, also the least and the greatest, in all fields.
func TestAnyNumbers(t *testing.T) {
	for round := range 20000 {
		c := chance(round)
		var l []world.Event
		for range c.below(30) {
			x := world.Event{What: one(&c, 1, 1, 1, 2, 3, c.edge()), Time: c.edge(), Port: c.edge(), Ver: c.edge(), Kind: api.Kind(c.edge()), ID: c.edge(), Done: one(&c, 0, 1, 1, 2, c.edge()), To: c.edge(), Gen: c.edge(), Stamp: c.edge(), Chassis: c.edge()}
			x.Origin, x.From = x.Chassis, x.Chassis
			if x.What != 1 || c.below(9) == 0 {
				x.Origin, x.From = c.edge(), c.edge()
			}
			l = append(l, x)
		}
		holds(t, l)
		begins(t, l)
	}
}

// few are events of which any orders are looked at.
func few() []world.Event {
	return []world.Event{
		homes(1, 7, 3, 1), homes(2, 8, 3, 1), arrives(1, 7, 3, 1), homes(1, 8, 3, 2), homes(1, 7, 4, 1), homes(2, 7, 3, 2),
		doubled(1, 7), doubled(2, 8), awake(1, 3, 1), entered(1, 7), sent(entered(1, 7), 2, 3, 1),
		delivered(entered(1, 7), 3, 1, 2), came(1, 7, 1, 1), sent(came(1, 7, 0, 2), 3, 3, 1),
	}
}

// TestAllOrders: P21.1, P21.3: all orders of up to four of few events.
func TestAllOrders(t *testing.T) {
	var grow func(l []world.Event)
	grow = func(l []world.Event) {
		i, _ := holds(t, l)
		if len(l) == 4 || i >= 0 && i < len(l)-1 {
			return
		}
		for _, x := range few() {
			grow(append(slices.Clone(l), x))
		}
	}
	grow(nil)
}

// eventsOf are events that bytes tell, of 12 each; a great byte is a number at an edge.
func eventsOf(b []byte) []world.Event {
	var l []world.Event
	for ; len(b) >= 12; b = b[12:] {
		var n [12]int
		for i, x := range b[:12] {
			if n[i] = int(x); x >= 240 {
				n[i] = edges()[int(x-240)%len(edges())]
			}
		}
		l = append(l, world.Event{What: n[0], Chassis: n[1], Port: n[2], Kind: api.Kind(n[3]), ID: n[4], Origin: n[5], From: n[6], Done: n[7], To: n[8], Gen: n[9], Stamp: n[10], Time: n[11], Ver: n[11]})
	}
	return l
}

// FuzzLook: as TestAny, of events that bytes tell.
func FuzzLook(f *testing.F) {
	home := []byte{1, 1, 3, 0, 7, 1, 1, 1, 0, 5, 5, 0}
	other := []byte{2, 2, 3, 1, 8, 0, 0, 1, 0, 5, 5, 0}
	f.Add([]byte{})
	f.Add(home)
	f.Add(slices.Concat(home, other))
	f.Add(slices.Concat(home, home))
	f.Add(slices.Concat([]byte{3, 1, 0, 0, 7, 0, 0, 0, 0, 0, 0, 0}, home, home))
	f.Add([]byte{2, 2, 3, 2, 8, 0, 1, 2, 3, 5, 0, 0})
	f.Add(slices.Repeat([]byte{240, 241, 254, 250, 240}, 36))
	f.Fuzz(func(t *testing.T, b []byte) {
		// What is told anew takes long of many.
		l := eventsOf(b[:min(len(b), 1200)])
		holds(t, l)
		begins(t, l)
	})
}
