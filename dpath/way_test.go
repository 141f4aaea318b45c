package dpath_test

import (
	"slices"
	"testing"

	"rutter/api"
	"rutter/bind"
	"rutter/dpath"
	"rutter/ether"
	"rutter/flow"
	"rutter/phase"
)

// bound is a table of rows, at a chassis.
func bound(t *testing.T, chassis int, l ...api.Row) *flow.Table {
	t.Helper()
	s, e := bind.Table(chassis, l...)
	if e != api.OK {
		t.Fatalf("Table at %d of %d: %d", chassis, len(l), e)
	}
	return s
}

// history are the rows of a port that is bound at 0, moves to 1, back, is aborted, moves to 2, to 0, goes, and comes anew at 3, with all that stood between.
func history(t *testing.T, port int) []api.Row {
	t.Helper()
	r, e := phase.New(port, ether.MAC(port), 0, 1)
	if e != api.OK {
		t.Fatalf("New: %d", e)
	}
	l := []api.Row{r}
	for i, act := range []func(api.Row) (api.Row, api.Errno){
		func(r api.Row) (api.Row, api.Errno) { return phase.Start(r, 1, 2) },
		func(r api.Row) (api.Row, api.Errno) { return phase.Awake(r, 1, r.Ver, 3) },
		func(r api.Row) (api.Row, api.Errno) { return phase.Commit(r, 4) },
		func(r api.Row) (api.Row, api.Errno) { return phase.Start(r, 0, 5) },
		func(r api.Row) (api.Row, api.Errno) { return phase.Abort(r, 6) },
		func(r api.Row) (api.Row, api.Errno) { return phase.Start(r, 2, 7) },
		func(r api.Row) (api.Row, api.Errno) { return phase.Commit(r, 8) },
		func(r api.Row) (api.Row, api.Errno) { return phase.Commit(r, 9) },
		func(r api.Row) (api.Row, api.Errno) { return phase.Start(r, 0, 10) },
		func(r api.Row) (api.Row, api.Errno) { return phase.Commit(r, 11) },
		func(r api.Row) (api.Row, api.Errno) { return phase.Commit(r, 12) },
		func(r api.Row) (api.Row, api.Errno) { return phase.Drop(r, 13) },
		func(r api.Row) (api.Row, api.Errno) { return phase.Again(r, r.MAC, 3, 14) },
	} {
		r, e = act(r)
		if e != api.OK {
			t.Fatalf("act %d: %d", i, e)
		}
		l = append(l, r)
	}
	return l
}

// onward checks what may become of a frame at a chassis, which came as packet p, or of a guest, if that is of no kind: by any table.
func onward(t *testing.T, chassis int, p api.Packet, frame []byte, o dpath.Outcome) {
	t.Helper()
	one(t, o)
	q := o.Packet
	switch {
	case o.Kind == 1 && string(o.Frame) != string(frame):
		t.Errorf("delivered at %d: %x; was %x", chassis, o.Frame, frame)
	case o.Kind != 2:
	case !mayBe(q):
		t.Errorf("sent from %d, though it may not be: %+v", chassis, q)
	case string(q.Frame) != string(frame):
		t.Errorf("sent from %d: %x; was %x", chassis, q.Frame, frame)
	case q.From != chassis || q.To == chassis || q.To == q.Origin:
		t.Errorf("sent from %d: %+v", chassis, q)
	case p.Kind == 0 && (q.Kind != 1 || q.Origin != chassis):
		t.Errorf("a guest's frame, sent from %d: %+v", chassis, q)
	case p.Kind == 1 && (q.Kind != 2 || q.To == p.From || q.Origin != p.Origin || q.ID != p.ID || q.Port != p.Port):
		t.Errorf("%+v, sent from %d: %+v", p, chassis, q)
	case p.Kind == 2:
		t.Errorf("%+v, though it was forwarded, sent from %d: %+v", p, chassis, q)
	}
}

// stamped checks that nothing is delivered whose STAMP is above GEN, by a table of rows.
func stamped(t *testing.T, o dpath.Outcome) {
	t.Helper()
	if o.Kind == 1 && o.Stamp > o.Gen {
		t.Errorf("delivered by %d, of the stamp %d", o.Gen, o.Stamp)
	}
}

// trip is what becomes of a guest's frame, when each chassis has a table of its own: over which chassis it goes, and the last outcome.
func trip(t *testing.T, tables []*flow.Table, chassis int, f api.Frame, id int) ([]int, dpath.Outcome) {
	t.Helper()
	b := plainBytes(f)
	o, e := dpath.Guest(tables[chassis], chassis, f, id)
	onward(t, chassis, api.Packet{}, b, o)
	way := []int{chassis}
	for e == api.OK && o.Kind == 2 && len(way) < 9 {
		stamped(t, o)
		p := o.Packet
		chassis = p.To
		way = append(way, chassis)
		o, e = dpath.Tunnel(tables[chassis], chassis, p)
		onward(t, chassis, p, b, o)
		if o.Kind == 1 && o.Stamp != p.Gen {
			t.Errorf("%+v, delivered with the stamp %d", p, o.Stamp)
		}
	}
	if e != api.OK {
		t.Fatalf("%+v from %v: %d", f, way, e)
	}
	stamped(t, o)
	sorted := slices.Sorted(slices.Values(way))
	if len(way) > 3 || len(slices.Compact(sorted)) != len(way) {
		t.Fatalf("%+v: over %v", f, way)
	}
	return way, o
}

// TestTrips: P15.2: whatever row of a port's history each of four chassis has, a frame goes over three at most, no one twice, as it was, and is delivered by a generation that isn't below its stamp.
func TestTrips(t *testing.T) {
	l := history(t, 9)
	var made [4][]*flow.Table
	for chassis := range made {
		for _, r := range l {
			made[chassis] = append(made[chassis], bound(t, chassis, r))
		}
	}
	f, seen := frame(), map[int]int{}
	for n := range len(l) * len(l) * len(l) * len(l) {
		var tables []*flow.Table
		for chassis, x := 0, n; chassis < 4; chassis, x = chassis+1, x/len(l) {
			tables = append(tables, made[chassis][x%len(l)])
		}
		for chassis := range 4 {
			way, o := trip(t, tables, chassis, f, n)
			if o.Kind == 1 {
				seen[len(way)]++
				if o.Port != 9 {
					t.Fatalf("delivered to port %d", o.Port)
				}
			}
		}
	}
	if seen[1] < 1000 || seen[2] < 1000 || seen[3] < 500 {
		t.Errorf("seen %v", seen)
	}
}

// TestManyTrips: P15.2: all 16 chassis, each with rows of all ports that may be, whatever they are; any frames.
func TestManyTrips(t *testing.T) {
	c, seen := chance(5), map[int]int{}
	for range 300 {
		var tables []*flow.Table
		for chassis := range 16 {
			tables = append(tables, bound(t, chassis, c.standing(3)...))
		}
		for id := range 300 {
			f := frame(dst(ether.MAC(c.below(33))), load(filled(c.below(80))))
			way, o := trip(t, tables, c.below(16), f, id)
			if o.Kind == 1 {
				seen[len(way)]++
			}
		}
	}
	if seen[1] < 300 || seen[2] < 300 || seen[3] < 300 {
		t.Errorf("seen %v", seen)
	}
}

// TestAnyPackets: P15.2: any packets, also such as no chassis would send by its rows, at any chassis, by tables of any rows.
func TestAnyPackets(t *testing.T) {
	c, seen := chance(6), map[int]int{}
	for range 500 {
		for chassis := range 16 {
			s := bound(t, chassis, c.standing(3)...)
			for range 20 {
				p := c.packet(to(chassis))
				if c.below(2) == 0 {
					p.Gen = 1 + c.below(5)
				}
				o, e := dpath.Tunnel(s, chassis, p)
				if !mayBe(p) {
					if e != api.ErrArg {
						t.Errorf("%+v: %d", p, e)
					}
					continue
				}
				onward(t, chassis, p, p.Frame, o)
				stamped(t, o)
				seen[o.Kind]++
				if o.Kind == 1 && o.Stamp < o.Gen {
					seen[3]++
				}
			}
		}
	}
	if seen[0] < 1000 || seen[1] < 1000 || seen[2] < 500 || seen[3] < 300 {
		t.Errorf("seen %v", seen)
	}
}

// TestAllPackets: P15.2: of one row that has moved, packets from everywhere, over each chassis, with stamps around its Gen.
func TestAllPackets(t *testing.T) {
	r := api.Row{Port: 9, MAC: own, Owner: 2, Target: api.Nobody, Old: 1, Gen: 5, Phase: api.Moved, Ver: 9}
	for chassis := range 16 {
		s := bound(t, chassis, r)
		for n := range 2 * 16 * 16 * 4 {
			p := normal(kind(api.Kind(1+n%2)), origin(n/2%16), from(n/32%16), to(chassis), gen(4+n/512))
			if !mayBe(p) {
				noPacket(t, chassis, p)
				continue
			}
			want := dpath.Outcome{}
			switch {
			case p.Gen > 5:
			case chassis == 2:
				want = came(p, 9, 5)
			case chassis == 1 && p.Kind == 1 && p.Origin != 2:
				want = passed(p, 2, 5)
			}
			tunnelled(t, s, p, want)
		}
	}
}

// TestElderRow: P15.1, P15.2: what 0 sends by an elder row to 1, where the port was, is forwarded to 2, where it is, and not further.
func TestElderRow(t *testing.T) {
	row := func(owner, old, gen int) api.Row {
		return api.Row{Port: 9, MAC: own, Owner: owner, Target: api.Nobody, Old: old, Gen: gen, Phase: api.Moved, Ver: gen}
	}
	elder, now, later := bound(t, 0, row(1, 3, 1)), row(2, 1, 2), row(3, 2, 3)
	f := frame()
	a, b := normal(starts(0), to(1), gen(1), holds(plainBytes(f))), forward(origin(0), from(1), to(2), gen(2), holds(plainBytes(f)))
	guest(t, elder, 0, f, 77, dpath.Outcome{Kind: 2, Packet: a})
	tunnelled(t, bound(t, 1, now), a, dpath.Outcome{Kind: 2, Packet: b})
	tunnelled(t, bound(t, 2, now), b, dpath.Outcome{Kind: 1, Port: 9, Gen: 2, Stamp: 2, Frame: plainBytes(f)})
	tunnelled(t, bound(t, 2, later), b, dpath.Outcome{})
	tunnelled(t, bound(t, 2, row(3, 2, 1)), b, dpath.Outcome{})
	tunnelled(t, bound(t, 2, row(2, 1, 1)), b, dpath.Outcome{})
	tunnelled(t, bound(t, 2, row(2, 4, 3)), b, dpath.Outcome{Kind: 1, Port: 9, Gen: 3, Stamp: 2, Frame: plainBytes(f)})
	guest(t, bound(t, 2, now), 2, f, 77, dpath.Outcome{Kind: 1, Port: 9, Gen: 2, Stamp: 2, Frame: plainBytes(f)})
}

// TestStampAbove: P15.2: the example of the whole (6): a packet with the stamp 6 is dropped where the row has Gen 5.
func TestStampAbove(t *testing.T) {
	r := api.Row{Port: 9, MAC: own, Owner: 5, Target: api.Nobody, Old: api.Nobody, Gen: 5, Ver: 1}
	s := bound(t, 5, r)
	for _, p := range both(gen(6)) {
		tunnelled(t, s, p, dpath.Outcome{})
		p.Gen = 5
		tunnelled(t, s, p, came(p, 9, 5))
		p.Gen = 4
		tunnelled(t, s, p, came(p, 9, 5))
	}
}

// TestAWay: P15.1, P15.2: a frame's way, as README.md tells it.
func TestAWay(t *testing.T) {
	r := api.Row{Port: 3, MAC: ether.MAC(3), Owner: 2, Target: api.Nobody, Old: 1, Gen: 5, Phase: api.Moved, Ver: 9}
	elder := api.Row{Port: 3, MAC: ether.MAC(3), Owner: 1, Target: api.Nobody, Old: api.Nobody, Gen: 4, Ver: 7}
	at0, at1, at2 := bound(t, 0, elder), bound(t, 1, r), bound(t, 2, r)
	f := api.Frame{Dst: ether.MAC(3), Src: ether.MAC(4), Type: api.TypeIPv4, Load: []byte("hi")}
	b := plainBytes(f)
	p := api.Packet{Kind: api.Normal, Origin: 0, From: 0, To: 1, Port: 3, Gen: 4, ID: 7, Frame: b}
	q := api.Packet{Kind: api.Forward, Origin: 0, From: 1, To: 2, Port: 3, Gen: 5, ID: 7, Frame: b}
	guest(t, at0, 0, f, 7, dpath.Outcome{Kind: 2, Packet: p})
	tunnelled(t, at1, p, dpath.Outcome{Kind: 2, Packet: q})
	tunnelled(t, at2, q, dpath.Outcome{Kind: 1, Port: 3, Gen: 5, Stamp: 5, Frame: b})
	guest(t, at2, 2, f, 8, dpath.Outcome{Kind: 1, Port: 3, Gen: 5, Stamp: 5, Frame: b})
	q.To = 1
	q.From = 2
	tunnelled(t, at1, q, dpath.Outcome{})
	guest(t, nil, 0, f, 9, dpath.Outcome{})
	noGuest(t, 16, f, 9)
	noPacket(t, 2, p)
}
