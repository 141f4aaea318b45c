package ctl_test

import (
	"math"
	"slices"
	"strings"
	"testing"

	"rutter/api"
	"rutter/ctl"
	"rutter/disk"
)

// TestOpenArgs: K1: a file, a span and a time, at each edge, and outside, and several wrong at once; with an error the file stays, also where it is torn.
func TestOpenArgs(t *testing.T) {
	torn := whole(ofAdded(1)) + "torn"
	spans := []int{math.MinInt, -1, 0, 1, 2, span, 1<<31 - 1, 1 << 31, 1<<31 + 1, 1 << 32, math.MaxInt}
	times := []int{math.MinInt, -2, -1, 0, 1, noon, 1<<40 - 1, 1 << 40, 1<<40 + 1, math.MaxInt}
	right := 0
	for _, s := range spans {
		for _, now := range times {
			for _, f := range []*disk.File{nil, file(t, much, torn)} {
				c, e := ctl.Open(f, s, now)
				if f == nil || s < 1 || s > 1<<31 || now < 0 || now > 1<<40 {
					if c != nil || e != api.ErrArg {
						t.Errorf("%v %d %d: %v, %d; want an error", f != nil, s, now, c, e)
					}
					if f != nil && string(f.Bytes()) != torn {
						t.Errorf("%d %d: the file has %x", s, now, f.Bytes())
					}
					continue
				}
				right++
				if c == nil || e != api.OK || c.Boot() != 1 || !slices.Equal(c.Chassis(), []int{1}) || len(c.Rows()) != 0 {
					t.Errorf("%d %d: %v, %d", s, now, c, e)
				}
			}
		}
	}
	if right != 5*5 {
		t.Errorf("%d were opened", right)
	}
}

// TestOpenEmpty: K1: on an empty file there is nothing but the first boot, whose record is safe.
func TestOpenEmpty(t *testing.T) {
	f := file(t, much, "")
	d := &desk{opened(t, f, noon), f}
	if len(d.Rows()) != 0 || len(d.Chassis()) != 0 || d.Boot() != 1 {
		t.Errorf("%s", d.look())
	}
	if got, want := d.tail(t, 0), whole(ofBoot(1)); got != want {
		t.Errorf("the file has %x; want %x", got, want)
	}
	for n := -1; n <= 16; n++ {
		if len(d.Out(n)) != 0 || d.Idle(n) {
			t.Errorf("%d: %x %v", n, d.Out(n), d.Idle(n))
		}
	}
}

// TestOpenRecords: K1: the store is what the records say, in order: chassis come and go, rows become so, one behind the other.
func TestOpenRecords(t *testing.T) {
	text := whole(ofAdded(3), ofBoot(4), ofAdded(0), ofAdded(15), ofRow(bound(31, 15, 1, 1)), ofRow(bound(0, 3, 1, 1)), ofRow(moving(31, 15, 0, 1, 2)),
		ofBoot(6), ofRow(gone(0, 1, 2)), ofRemoved(3), ofRow(with(5, bound(0, 0, 2, 3))), ofRow(moved(31, 0, 15, 2, 3)), ofAdded(3), ofAdded(7), ofRemoved(3))
	f := file(t, much, text)
	d := &desk{opened(t, f, noon), f}
	d.has(t, with(5, bound(0, 0, 2, 3)), moved(31, 0, 15, 2, 3))
	if got := d.Chassis(); !slices.Equal(got, []int{0, 7, 15}) || d.Boot() != 7 {
		t.Errorf("chassis %d, boot %d", got, d.Boot())
	}
	if got := d.tail(t, len(text)); got != whole(ofBoot(7)) {
		t.Errorf("behind them %x", got)
	}
	for _, n := range d.Chassis() {
		want := []string{string(letter(t, lone(7)))}
		if got := texts(d.Out(n)); !slices.Equal(got, want) || d.Idle(n) {
			t.Errorf("%d: %x, %v; want %x", n, got, d.Idle(n), want)
		}
	}
}

// TestOpenChanges: K1: a row is the change of the version that is there: a first one may have any, the next one any that is above it, and a generation may be any.
func TestOpenChanges(t *testing.T) {
	for _, l := range [][]api.Row{
		{bound(3, 1, 1, 1)}, {bound(3, 1, 9, 77)}, {bound(3, 1, 1<<32, 1<<40)}, {gone(3, 4, 1)}, {moving(3, 1, 2, 4, 8)}, {moved(3, 1, 2, 4, 8)},
		{bound(3, 1, 1, 1), bound(3, 1, 1, 2)}, {bound(3, 1, 1, 1), gone(3, 1, 99)}, {bound(3, 1, 9, 1), bound(3, 2, 8, 1<<40)}, {gone(3, 9, 5), at(0, bound(3, 0, 9, 6))},
	} {
		f := file(t, much, whole(append(hosts(3), rowsOf(l...)...)...))
		d := &desk{opened(t, f, noon), f}
		d.has(t, l[len(l)-1])
	}
}

// TestOpenWrong: K1: ErrForm, where a record is none, or has an error in the store, wherever it stands; the file stays then, but what is torn.
func TestOpenWrong(t *testing.T) {
	row := ofRow(bound(3, 1, 1, 2))
	wrong := [][]string{
		{"\x00"}, {"\x04"}, {"\x05"}, {"\x06"}, {"\x01"}, {"\x02"}, {"\x03"}, {"\x07"}, {"\x07\x01"}, {"\x08\x01"}, {"\xff\x01"}, {"\x00\x01"}, {"\x14\x01"},
		{ofAdded(2) + "\x00"}, {ofAdded(1), ofRemoved(1) + "\x00"}, {ofBoot(1)[:5]}, {ofBoot(1) + "\x00"}, {"\x02" + figures(1, 3) + figures(6, 2)},
		{"\x03" + figures(1, 3) + figures(6, 2) + "\x00"}, {"\x00" + ofBoot(1)}, {strings.Repeat("\x04", 200)}, {"\x06" + figures(6, 1)}, {"\x06" + figures(4, 1)},
		{ofAdded(1), row[:len(row)-1]}, {ofAdded(1), row + "\x00"}, {ofAdded(1), "\x02" + row[1:]}, {ofAdded(1), "\x04" + row[1:]}, {ofAdded(1), "\x06" + row[1:]},
		{ofAdded(16)}, {ofAdded(255)}, {ofRemoved(16)}, {ofRemoved(255)},
		{ofAdded(1), ofAdded(1)}, {ofRemoved(1)}, {ofAdded(2), ofRemoved(1)}, {ofAdded(1), ofRemoved(1), ofRemoved(1)}, {ofAdded(1), row, ofRemoved(1)},
		{ofAdded(1), ofAdded(2), ofRow(moving(3, 1, 2, 1, 2)), ofRemoved(2)}, {ofAdded(1), ofAdded(2), ofRow(moved(3, 1, 2, 1, 2)), ofRemoved(2)},
		{row}, {ofAdded(2), row}, {ofAdded(1), ofRemoved(1), row}, {ofAdded(1), ofRow(moving(3, 1, 2, 1, 2))}, {ofAdded(1), ofRow(moved(3, 1, 2, 1, 2))},
		{ofAdded(1), row, row}, {ofAdded(1), row, ofRow(bound(3, 1, 2, 1))}, {ofAdded(1), ofRow(bound(3, 1, 1, 9)), ofRow(gone(3, 1, 8))},
		{ofAdded(1), row, ofRow(with(mac(3), bound(4, 1, 1, 1)))}, {ofAdded(1), ofRow(bound(32, 1, 1, 1))}, {ofAdded(1), ofRow(bound(3, 1, 0, 1))}, {ofRow(gone(3, 1, 0))},
		{ofBoot(0)}, {ofBoot(1), ofBoot(1)}, {ofBoot(2), ofBoot(1)}, {ofBoot(7), ofBoot(8), ofBoot(8)}, {ofBoot(1 << 32), ofBoot(1)}, {ofBoot(5), ofBoot(0)},
	}
	for _, l := range wrong {
		for _, more := range [][]string{l, slices.Concat([]string{ofAdded(9)}, l), slices.Concat(l, []string{ofBoot(9)})} {
			for _, torn := range []string{"", "\x00", "torn", whole(ofBoot(9))[:11]} {
				f := file(t, much, whole(more...)+torn)
				c, e := ctl.Open(f, span, noon)
				if c != nil || e != api.ErrForm {
					t.Errorf("%x: %v, %d; want an error", more, c, e)
				}
				if got := string(f.Bytes()); got != whole(more...) {
					t.Errorf("%x and %x: the file has %x", more, torn, got)
				}
			}
		}
	}
}

// TestOpenTorn: K1: of a last record that is torn, wherever, nothing is left, without an error and with each one.
func TestOpenTorn(t *testing.T) {
	last := whole(ofRow(bound(3, 1, 1, 1)))
	for _, x := range []struct {
		ahead []string
		room  int
		e     api.Errno
	}{
		{[]string{ofAdded(1)}, much, api.OK}, {nil, much, api.OK}, {[]string{ofAdded(1), ofAdded(1)}, much, api.ErrForm},
		{[]string{ofBoot(1 << 32)}, much, api.ErrGen}, {[]string{ofAdded(1)}, 0, api.ErrFull},
	} {
		text := whole(x.ahead...)
		for n := range len(last) {
			for _, safe := range []bool{true, false} {
				f := file(t, max(x.room, len(text)+n), text)
				f.Add([]byte(last[:n])...)
				if safe {
					f.Sync()
				}
				want := text
				if x.e == api.OK {
					want += whole(ofBoot(1))
				}
				if x.e == api.ErrFull && n >= bootRoom {
					continue // what is cut off leaves room for the boot's record
				}
				if c, e := ctl.Open(f, span, noon); e != x.e || (c != nil) != (e == api.OK) || string(f.Bytes()) != want {
					t.Errorf("%x and %d bytes: %v, %d, and the file %x; want %d, %x", x.ahead, n, c, e, f.Bytes(), x.e, want)
				}
			}
		}
	}
}

// TestOpenRoom: K1: the journal's error, where there is no room for the boot's record; what is torn makes room.
func TestOpenRoom(t *testing.T) {
	text := whole(append(hosts(3), ofRow(bound(3, 1, 1, 1)))...)
	for room := range 30 {
		f := file(t, len(text)+room, text)
		c, e := ctl.Open(f, span, noon)
		if room < bootRoom {
			if c != nil || e != api.ErrFull || string(f.Bytes()) != text {
				t.Errorf("room for %d: %v, %d, %x", room, c, e, f.Bytes())
			}
			continue
		}
		if c == nil || e != api.OK || string(f.Bytes()) != text+whole(ofBoot(1)) || f.Safe() != len(text)+bootRoom {
			t.Errorf("room for %d: %v, %d, %x", room, c, e, f.Bytes())
		}
	}
	f := file(t, len(text)+bootRoom, text+"twelve bytes")
	opened(t, f, noon)
}

// TestOpenBoots: K1: a boot is one above the last one, to 2^32, whatever stands between; above that ErrGen, and the file stays.
func TestOpenBoots(t *testing.T) {
	for _, n := range []int{1, 2, 255, 256, 1 << 31, 1<<32 - 2, 1<<32 - 1} {
		f := file(t, much, whole(ofBoot(n), ofAdded(2)))
		if c := opened(t, f, noon); c.Boot() != n+1 {
			t.Errorf("behind %d: %d", n, c.Boot())
		}
		if got, want := string(f.Bytes()), whole(ofBoot(n), ofAdded(2), ofBoot(n+1)); got != want {
			t.Errorf("behind %d: %x; want %x", n, got, want)
		}
	}
	for _, l := range [][]string{{ofBoot(1 << 32)}, {ofBoot(3), ofBoot(1 << 32), ofAdded(3)}, {ofBoot(1<<32 + 1)}, {ofBoot(1<<40 - 1)}} {
		for _, room := range []int{0, much} {
			f := file(t, len(whole(l...))+room, whole(l...))
			if c, e := ctl.Open(f, span, noon); c != nil || e != api.ErrGen || string(f.Bytes()) != whole(l...) {
				t.Errorf("%x: %v, %d, %x; want an error", l, c, e, f.Bytes())
			}
		}
	}
}

// TestOpenAgain: K1: the boot rises with each opening, and what was done is there.
func TestOpenAgain(t *testing.T) {
	f := file(t, much, "")
	for i := range 20 {
		d := &desk{opened(t, f, noon), f}
		if d.Boot() != i+1 || len(d.Rows()) != i || len(d.Chassis()) != min(i, 16) {
			t.Fatalf("opening %d: %s", i, d.look())
		}
		if i < 16 {
			d.does(t, api.Call{Op: api.AddChassis, Chassis: i}, api.Row{})
		}
		d.does(t, api.Call{Op: api.AddPort, Port: i, Chassis: min(i, 15), MAC: mac(i)}, bound(i, min(i, 15), 1, 1))
		if i%2 == 0 {
			f.Crash(0)
		}
	}
}

// TestOpenLate: K1: rows that are late become so behind the opening, by ports, rising, and safe; one whose time is not up stays.
func TestOpenLate(t *testing.T) {
	rows := []api.Row{moving(2, 0, 1, 6, 10), at(noon-1, moved(3, 2, 0, 7, 11)), at(noon+1, moving(4, 1, 2, 8, 12)), bound(5, 1, 1, 1), gone(6, 1, 4), at(0, moved(30, 1, 2, 3, 4))}
	text := whole(append(hosts(3), rowsOf(rows[5], rows[4], rows[3], rows[2], rows[1], rows[0])...)...)
	for _, x := range []struct {
		now  int
		late []int
	}{
		{0, nil}, {span - 1, nil}, {span, []int{5}}, {noon - 1, []int{5}}, {noon + span - 2, []int{5}}, {noon + span - 1, []int{1, 5}}, {noon + span, []int{0, 1, 5}},
		{noon + span + 1, []int{0, 1, 2, 5}}, {1 << 40, []int{0, 1, 2, 5}},
	} {
		want, records := slices.Clone(rows), []string{ofBoot(1)}
		for _, i := range x.late {
			r := &want[i]
			*r = api.Row{Port: r.Port, MAC: r.MAC, Owner: r.Owner, Target: -1, Old: -1, Gen: r.Gen, Phase: api.Bound, Ver: r.Ver + 1, Since: x.now}
			records = append(records, ofRow(*r))
		}
		f := file(t, much, text)
		d := &desk{opened(t, f, x.now), f}
		d.has(t, want...)
		if got := d.tail(t, len(text)); got != whole(records...) {
			t.Errorf("at %d: the file has %x; want %x", x.now, got, whole(records...))
		}
		d.does(t, api.Call{Op: api.Query, Port: 5}, bound(5, 1, 1, 1))
	}
}

// TestOpenLateFull: K1: where the journal is full on the way, a row that is late stays, and the controller is opened.
func TestOpenLateFull(t *testing.T) {
	text := whole(append(hosts(3), rowsOf(moving(2, 0, 1, 6, 10), moved(3, 2, 0, 7, 11))...)...)
	for room := bootRoom; room < bootRoom+2*rowRoom+1; room++ {
		f := file(t, len(text)+room, text)
		d := &desk{opened(t, f, 200), f}
		want := []api.Row{moving(2, 0, 1, 6, 10), moved(3, 2, 0, 7, 11)}
		if room >= bootRoom+rowRoom {
			want[0] = at(200, bound(2, 0, 6, 11))
		}
		if room >= bootRoom+2*rowRoom {
			want[1] = at(200, bound(3, 2, 7, 12))
		}
		d.has(t, want...)
		if d.Boot() != 1 || d.f.Safe() != len(d.f.Bytes()) {
			t.Errorf("room for %d: %s", room, d.look())
		}
	}
}

// TestOpenSpans: K1: the span is that of the opening, the least and the greatest one, too.
func TestOpenSpans(t *testing.T) {
	for _, x := range []struct {
		span, now int
		late      bool
	}{
		{1, noon, false}, {1, noon + 1, true}, {7, noon + 6, false}, {7, noon + 7, true}, {1 << 31, noon + 1<<31 - 1, false}, {1 << 31, noon + 1<<31, true},
	} {
		c, e := ctl.Open(file(t, much, whole(ofAdded(0), ofAdded(1), ofRow(moving(2, 0, 1, 6, 10)))), x.span, x.now)
		if e != api.OK || (c.Rows()[0].Phase == api.Bound) != x.late {
			t.Errorf("%+v: %d, %+v", x, e, c.Rows())
		}
	}
}
