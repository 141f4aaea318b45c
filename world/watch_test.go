package world_test

import (
	"fmt"
	"slices"
	"testing"

	"rutter/api"
	"rutter/world"
)

// generation is one of a port.
type generation struct{ port, gen int }

// watch looks at a world, along all that is done with it.
type watch struct {
	w         *world.World
	owner     map[generation]int // whose agent had it, or delivered
	decided   map[api.Row]bool   // all rows that the controller ever had
	told      map[int][]int      // of an ID, the chassis at which it was looked at
	delivered map[int]int        // of an ID, how often
	doubled   map[int]int        // of an ID, how often
	looked    int                // how many events were
	injected  int
	seen      map[string]int
}

// watchOf is one of a world, in which the agents have what they may have.
func watchOf(w *world.World) *watch {
	x := &watch{w: w, owner: map[generation]int{}, decided: map[api.Row]bool{}, told: map[int][]int{}, delivered: map[int]int{}, doubled: map[int]int{}, seen: map[string]int{}}
	for n := range 16 {
		for _, r := range w.Agent(n).Rows() {
			x.decided[r] = true
		}
	}
	return x
}

// has looks at P19.2: of one generation of a port one chassis' agent alone has a row whose owner it is, and alone delivers.
func (x *watch) has(t testing.TB, port, gen, chassis int) {
	t.Helper()
	who := generation{port, gen}
	if first, ok := x.owner[who]; ok && first != chassis {
		t.Fatalf("P19.2: generation %d of port %d is at %d, and was at %d", gen, port, chassis, first)
	}
	x.owner[who] = chassis
}

// knows looks at P19.5: each row that an agent has was the controller's, which has it, or a later one.
func (x *watch) knows(t testing.TB, chassis int, r api.Row) {
	t.Helper()
	if !x.decided[r] {
		t.Fatalf("P19.5: %d has %+v, which was never the controller's", chassis, r)
	}
	if x.w.Ctl() == nil {
		return
	}
	if now := row(x.w.Ctl(), r.Port); now.Ver < r.Ver || now.Ver == r.Ver && now != r {
		t.Fatalf("P19.5: %d has %+v, the controller %+v", chassis, r, now)
	}
}

// rows looks at what the controller and the agents have.
func (x *watch) rows(t testing.TB) {
	t.Helper()
	for _, r := range x.w.Ctl().Rows() {
		x.decided[r] = true
	}
	for n := range 16 {
		for _, r := range x.w.Agent(n).Rows() {
			x.knows(t, n, r)
			if r.Owner == n {
				x.has(t, r.Port, r.Gen, n)
			}
		}
	}
}

// route looks at P19.4: over how many chassis something went, no one twice.
func (x *watch) route(t testing.TB, e world.Event) {
	t.Helper()
	here := e.Chassis
	var right bool
	switch {
	case e.What == 1:
		right = e.Kind == 0 && e.Origin == here && e.From == here
	case e.Kind == api.Normal:
		right = e.Origin == e.From && here != e.From
	case e.Kind == api.Forward:
		right = e.Origin != e.From && here != e.From && here != e.Origin
	}
	if !right {
		t.Fatalf("P19.4: it went astray: %+v", e)
	}
	x.told[e.ID] = append(x.told[e.ID], here)
	way := slices.Sorted(slices.Values(x.told[e.ID]))
	if x.doubled[e.ID] == 0 && (len(way) > 3 || len(slices.Compact(way)) < len(x.told[e.ID])) {
		t.Fatalf("P19.4: %d went over %d", e.ID, x.told[e.ID])
	}
}

// becomes looks at P19.3 and P19.4: what became of what was looked at.
func (x *watch) becomes(t testing.TB, e world.Event) {
	t.Helper()
	switch e.Done {
	case 1:
		x.has(t, e.Port, e.Gen, e.Chassis)
		x.delivered[e.ID]++
		if x.delivered[e.ID] > 1+x.doubled[e.ID] || e.ID < 1 || e.ID > x.injected {
			t.Fatalf("P19.3: of %d that were injected %d was delivered %d times, and doubled %d times", x.injected, e.ID, x.delivered[e.ID], x.doubled[e.ID])
		}
		if e.Stamp > e.Gen {
			t.Fatalf("P19.4: delivered above its stamp: %+v", e)
		}
		if x.delivered[e.ID] > 1 {
			x.seen["delivered again"]++
		}
		if e.Stamp < e.Gen {
			x.seen["below its gen"]++
		}
	case 2:
		if e.Kind == api.Forward || e.To == e.Chassis || e.To == e.Origin || e.To == e.From {
			t.Fatalf("P19.4: sent again, or back: %+v", e)
		}
	}
}

// looks looks at all that there is, behind each deed.
func (x *watch) looks(t testing.TB) {
	t.Helper()
	x.rows(t)
	l := x.w.Events()
	for _, e := range l[x.looked:] {
		x.seen[fmt.Sprintf("what %d kind %d done %d", e.What, e.Kind, e.Done)]++
		switch e.What {
		case 1, 2:
			if e.What == 1 {
				x.injected++
			}
			x.route(t, e)
			x.becomes(t, e)
		case 3:
			x.doubled[e.ID]++
		}
	}
	x.looked = len(l)
}

// does does something, and looks at what comes of it.
func (x *watch) does(t testing.TB, d deed) {
	t.Helper()
	if got := d.to(x.w); got.e == api.OK {
		x.seen[fmt.Sprintf("deed %d", d.kind)]++
	}
	x.looks(t)
}

// TestPromises: P19.2, P19.3, P19.4, P19.5: along any calls, crashes, breaks and starts, with items that are lost, doubled and turned about.
func TestPromises(t *testing.T) {
	seen := map[string]int{}
	for seed := range 60 {
		c, w := chance(100+seed), made(t, []int{3, span, 40, 200}[seed%4], life)
		x := watchOf(w)
		begun(t, w)
		for range 2500 {
			x.does(t, c.deed(t, w, moods()[seed%3]))
		}
		for k, n := range x.seen {
			seen[k] += n
		}
	}
	few(t, seen, map[string]int{
		"deed 0": 3000, "deed 1": 50, "deed 2": 1000, "deed 3": 500, "deed 4": 300, "deed 5": 5000, "deed 6": 20000, "deed 7": 1000, "deed 8": 1000, "deed 9": 10000,
		"what 0 kind 0 done 0": 100, "what 1 kind 0 done 1": 1000, "what 1 kind 0 done 2": 3000, "what 2 kind 1 done 0": 1000, "what 2 kind 1 done 1": 2000, "what 2 kind 1 done 2": 100,
		"what 2 kind 2 done 0": 30, "what 2 kind 2 done 1": 60, "delivered again": 50, "below its gen": 30,
	})
}
