package ctl_test

import (
	"math"
	"slices"
	"testing"

	"rutter/api"
	"rutter/ctl"
	"rutter/disk"
)

// held are all rows and chassis of a controller.
type held struct {
	rows    []api.Row
	chassis []int
}

func heldBy(c *ctl.Ctl) held { return held{c.Rows(), c.Chassis()} }

func (h held) equal(o held) bool {
	return slices.Equal(h.rows, o.rows) && slices.Equal(h.chassis, o.chassis)
}

// torn is a file as another one is, that then crashed, and kept so much.
func torn(t testing.TB, f *disk.File, keep int) *disk.File {
	t.Helper()
	b, safe := f.Bytes(), f.Safe()
	g := file(t, len(b)+much, string(b[:safe]))
	if e := g.Add(b[safe:]...); e != api.OK {
		t.Fatal(e)
	}
	g.Crash(keep)
	return g
}

// eitherOr checks P17.2 of a controller that has stopped: whatever its file keeps, one that is opened on that has what was ahead of the call, or behind it.
func eitherOr(t testing.TB, x api.Call, c *ctl.Ctl, f *disk.File, now int, ahead, behind held) {
	t.Helper()
	loose := len(f.Bytes()) - f.Safe()
	if loose < chassisRoom {
		t.Fatalf("%+v: %d bytes are not safe", x, loose)
	}
	for _, keep := range append([]int{math.MinInt, -1, loose + 1, loose + 100, math.MaxInt}, upTo(loose)...) {
		d := opened(t, torn(t, f, keep), now)
		want := ahead
		if keep >= loose {
			want = behind
		}
		if got := heldBy(d); !got.equal(want) {
			t.Fatalf("%+v, of which %d of %d bytes are kept: %+v; want %+v", x, keep, loose, got, want)
		}
		if d.Boot() != c.Boot()+1 {
			t.Fatalf("%+v: boot %d behind %d", x, d.Boot(), c.Boot())
		}
	}
}

// upTo are the numbers from 0 to n.
func upTo(n int) []int {
	var l []int
	for i := range n + 1 {
		l = append(l, i)
	}
	return l
}

// TestEitherOr: P17.2: of each op.
func TestEitherOr(t *testing.T) {
	for _, x := range steps() {
		d, e := each(t), each(t)
		ahead := heldBy(d.Ctl)
		if _, err := e.Do(x.call); err != api.OK {
			t.Fatalf("%+v: %d", x.call, err)
		}
		if err := d.Half(x.call); err != api.OK {
			t.Fatalf("%+v: %d", x.call, err)
		}
		behind := heldBy(e.Ctl)
		if ahead.equal(behind) {
			t.Fatalf("%+v changes nothing", x.call)
		}
		eitherOr(t, x.call, d.Ctl, d.f, noon, ahead, behind)
	}
}

// TestEitherOrExample: the whole's seventh example: of 35 bytes of a call's record 34 are left: it comes back without it; of all of them, with it.
func TestEitherOrExample(t *testing.T) {
	for keep, want := range map[int]api.Row{34: bound(3, 1, 1, 1), 35: moving(3, 1, 2, 1, 2)} {
		d := begun(t, bound(3, 1, 1, 1))
		if e := d.Half(api.Call{Op: api.Start, Port: 3, Chassis: 2}); e != api.OK {
			t.Fatal(e)
		}
		if n := len(d.f.Bytes()) - d.f.Safe(); n != 35 {
			t.Fatalf("the record has %d bytes", n)
		}
		d.f.Crash(keep)
		c := &desk{opened(t, d.f, noon), d.f}
		c.has(t, want)
	}
}

// TestEitherOrAnywhere: P17.2: behind any calls, letters, ticks, crashes and openings.
func TestEitherOrAnywhere(t *testing.T) {
	c, ops := chance(5), map[api.Op]int{}
	for round := range 40 {
		b := two(t, much, peopled())
		for range 60 {
			for n := c.below(12); n > 0 || b.p.stopped; n-- {
				c.does(t, b)
			}
			x := c.call(b)
			ahead, twin := heldBy(b.c), opened(t, torn(t, b.f, 0), b.p.now)
			if !heldBy(twin).equal(ahead) {
				continue // some rows are late by the twin's span
			}
			_, want := twin.Do(x)
			n := len(b.f.Bytes())
			if e, p := b.c.Half(x), b.p.half(x); e != want || p != want {
				t.Fatalf("round %d: %+v: %d, %d; want %d", round, x, e, p, want)
			}
			if len(b.f.Bytes()) == n {
				continue
			}
			ops[x.Op]++
			eitherOr(t, x, b.c, b.f, b.p.now, ahead, heldBy(twin))
			c.anew(t, b)
			b.like(t)
		}
	}
	for op := api.AddChassis; op <= api.Abort; op++ {
		if ops[op] < 15 {
			t.Errorf("of op %d too few: %v", op, ops)
		}
	}
}

// witness has seen what controllers of a file had: their last rows, their boot, and who owned each generation of a port.
type witness struct {
	rows  map[int]api.Row
	boot  int
	owner map[[2]int]int
}

// looks looks at P17.3: no row goes, no version, generation or boot falls, a version is of one row, and a generation of one owner.
func (w *witness) looks(t testing.TB, c *ctl.Ctl) {
	t.Helper()
	rows := map[int]api.Row{}
	for _, r := range c.Rows() {
		rows[r.Port] = r
		if r.Phase == api.Gone {
			continue
		}
		who := [2]int{r.Port, r.Gen}
		if first, ok := w.owner[who]; ok && first != r.Owner {
			t.Fatalf("%+v: the owner was %d", r, first)
		}
		w.owner[who] = r.Owner
	}
	for port, was := range w.rows {
		r, ok := rows[port]
		if !ok || r.Ver < was.Ver || r.Gen < was.Gen || r.Ver == was.Ver && r != was {
			t.Fatalf("%+v; was %+v", r, was)
		}
	}
	if c.Boot() < w.boot {
		t.Fatalf("boot %d; was %d", c.Boot(), w.boot)
	}
	w.rows, w.boot = rows, c.Boot()
}

// TestNeverBack: P17.3: along any calls, letters, ticks, calls that stop halfway, crashes and openings, with much room and with little.
func TestNeverBack(t *testing.T) {
	c, owners, boots := chance(6), 0, 0
	for range 40 {
		b, w := two(t, one(&c, much, 3000), peopled()), &witness{map[int]api.Row{}, 0, map[[2]int]int{}}
		for range 600 {
			c.does(t, b)
			w.looks(t, b.c)
		}
		owners, boots = owners+len(w.owner), boots+w.boot
	}
	if owners < 1000 || boots < 100 {
		t.Errorf("%d generations, %d boots", owners, boots)
	}
}

// TestNeverBackBoots: P17.3: each opening has a boot above those ahead, also where all that could go is gone.
func TestNeverBackBoots(t *testing.T) {
	f := file(t, much, peopled())
	for i := range 50 {
		d := opened(t, f, noon)
		if d.Boot() != i+1 {
			t.Fatalf("opening %d: boot %d", i, d.Boot())
		}
		f.Crash(0)
	}
}
