package ctl_test

import (
	"fmt"
	"hash/crc32"
	"math"
	"slices"
	"strings"
	"testing"

	"rutter/api"
	"rutter/control"
	"rutter/ctl"
	"rutter/disk"
	"rutter/session"
)

// An ordinary controller has a span, and is opened at noon, on a file with much room; an ordinary agent is of boot.
const (
	span = 10
	noon = 100
	boot = 7
	much = 1 << 16
)

// What a journal's records need of room.
const (
	rowRoom     = 35
	chassisRoom = 8
	bootRoom    = 12
)

// mac is a port's usual address.
func mac(port int) uint64 { return 1<<41 + uint64(port) }

// Rows of each phase, with a port's usual address, since noon.
func bound(port, owner, gen, ver int) api.Row {
	return api.Row{Port: port, MAC: mac(port), Owner: owner, Target: -1, Old: -1, Gen: gen, Phase: api.Bound, Ver: ver, Since: noon}
}

func moving(port, owner, target, gen, ver int) api.Row {
	return api.Row{Port: port, MAC: mac(port), Owner: owner, Target: target, Old: -1, Gen: gen, Phase: api.Moving, Ver: ver, Since: noon}
}

func moved(port, owner, old, gen, ver int) api.Row {
	return api.Row{Port: port, MAC: mac(port), Owner: owner, Target: -1, Old: old, Gen: gen, Phase: api.Moved, Ver: ver, Since: noon}
}

func gone(port, gen, ver int) api.Row {
	return api.Row{Port: port, MAC: mac(port), Owner: -1, Target: -1, Old: -1, Gen: gen, Phase: api.Gone, Ver: ver, Since: noon}
}

// with is a row with another address; at is one since another time.
func with(address uint64, r api.Row) api.Row {
	r.MAC = address
	return r
}

func at(now int, r api.Row) api.Row {
	r.Since = now
	return r
}

// figures are a number of so many bytes, told anew.
func figures(wide, n int) string {
	b := make([]byte, wide)
	for i := range b {
		b[wide-1-i] = byte(n >> (8 * i))
	}
	return string(b)
}

// The bodies of records, told anew: of a row, of a chassis that was added, or removed, and of a boot.
func ofRow(r api.Row) string {
	who := figures(1, r.Owner+1) + figures(1, r.Target+1) + figures(1, r.Old+1)
	return "\x01" + figures(1, r.Port) + figures(6, int(r.MAC)) + who + figures(1, int(r.Phase)) + figures(5, r.Gen) + figures(6, r.Ver) + figures(6, r.Since)
}

func ofAdded(n int) string   { return "\x04" + figures(1, n) }
func ofRemoved(n int) string { return "\x05" + figures(1, n) }
func ofBoot(n int) string    { return "\x06" + figures(5, n) }

// whole are records of bodies, told anew, as they stand in a file.
func whole(bodies ...string) string {
	all := ""
	for _, b := range bodies {
		all += figures(2, len(b)) + b + figures(4, int(crc32.ChecksumIEEE([]byte(b))))
	}
	return all
}

// hosts are the bodies of so many chassis, from 0 on, that were added.
func hosts(n int) []string {
	var l []string
	for i := range n {
		l = append(l, ofAdded(i))
	}
	return l
}

// rowsOf are the bodies of rows.
func rowsOf(rows ...api.Row) []string {
	var l []string
	for _, r := range rows {
		l = append(l, ofRow(r))
	}
	return l
}

// file is one with this in it, all of it safe.
func file(t testing.TB, room int, text string) *disk.File {
	t.Helper()
	f, e := disk.New(room)
	if e != api.OK || f.Add([]byte(text)...) != api.OK {
		t.Fatalf("a file with room for %d, and %d bytes: %d", room, len(text), e)
	}
	f.Sync()
	return f
}

// opened is a controller on a file, at a time.
func opened(t testing.TB, f *disk.File, now int) *ctl.Ctl {
	t.Helper()
	c, e := ctl.Open(f, span, now)
	if c == nil || e != api.OK {
		t.Fatalf("Open at %d: %v, %d", now, c, e)
	}
	return c
}

// desk is a controller, and its file.
type desk struct {
	*ctl.Ctl
	f *disk.File
}

// roomy is a controller of four chassis and these rows, opened at noon, whose file has room for so many bytes more.
func roomy(t testing.TB, room int, rows ...api.Row) *desk {
	t.Helper()
	text := whole(append(hosts(4), rowsOf(rows...)...)...)
	f := file(t, len(text)+bootRoom+room, text)
	d := &desk{opened(t, f, noon), f}
	d.has(t, rows...)
	return d
}

// begun is one whose file has much room.
func begun(t testing.TB, rows ...api.Row) *desk {
	t.Helper()
	return roomy(t, much, rows...)
}

// each is one that has a row of each phase: port 1 is bound at 0, 2 is moving from 0 to 1, 3 has moved from 0 to 2, and 4 is gone. Chassis 3 isn't named.
func each(t testing.TB) *desk {
	t.Helper()
	return begun(t, bound(1, 0, 5, 9), moving(2, 0, 1, 6, 10), moved(3, 2, 0, 7, 11), gone(4, 8, 12))
}

// has checks which rows there are.
func (d *desk) has(t testing.TB, want ...api.Row) {
	t.Helper()
	if got := d.Rows(); !slices.Equal(got, want) {
		t.Fatalf("rows %+v; want %+v", got, want)
	}
}

// row is a port's.
func (d *desk) row(port int) api.Row {
	for _, r := range d.Rows() {
		if r.Port == port {
			return r
		}
	}
	return api.Row{}
}

// tail is what stands in the file behind so many bytes; it checks that all is safe.
func (d *desk) tail(t testing.TB, n int) string {
	t.Helper()
	b := d.f.Bytes()
	if d.f.Safe() != len(b) {
		t.Fatalf("%d of %d bytes are safe", d.f.Safe(), len(b))
	}
	return string(b[n:])
}

// look tells all that can be told of a controller and its file without a call that changes it.
func look(c *ctl.Ctl, f *disk.File) string {
	var out strings.Builder
	fmt.Fprintf(&out, "%+v %d boot %d file %x safe %d", c.Rows(), c.Chassis(), c.Boot(), f.Bytes(), f.Safe())
	for n := -1; n <= 16; n++ {
		fmt.Fprintf(&out, "; %d: %x %v", n, c.Out(n), c.Idle(n))
	}
	return out.String()
}

func (d *desk) look() string { return look(d.Ctl, d.f) }

// does checks what a call answers.
func (d *desk) does(t testing.TB, x api.Call, want api.Row) {
	t.Helper()
	if r, e := d.Do(x); r != want || e != api.OK {
		t.Fatalf("%+v: %+v, %d; want %+v", x, r, e, want)
	}
}

// refuses checks a call's error, by Do and by Half, and that nothing is changed then.
func (d *desk) refuses(t testing.TB, x api.Call, want api.Errno) {
	t.Helper()
	was := d.look()
	if r, e := d.Do(x); r != (api.Row{}) || e != want {
		t.Errorf("%+v: %+v, %d; want the error %d", x, r, e, want)
	}
	if e := d.Half(x); e != want {
		t.Errorf("half of %+v: %d; want the error %d", x, e, want)
	}
	if got := d.look(); got != was {
		t.Errorf("%+v: %s; was %s", x, got, was)
	}
}

// ticks lets time pass.
func (d *desk) ticks(t testing.TB, now int) {
	t.Helper()
	if e := d.Tick(now); e != api.OK {
		t.Fatalf("Tick to %d: %d", now, e)
	}
}

// letter are a letter's bytes.
func letter(t testing.TB, l session.Letter) []byte {
	t.Helper()
	b, e := session.Encode(l)
	if e != api.OK {
		t.Fatalf("%+v: %d", l, e)
	}
	return b
}

// Messages of each kind, and their bytes.
func aRow(r api.Row) api.Message        { return api.Message{Kind: 1, Row: r} }
func anAwake(port, ver int) api.Message { return api.Message{Kind: 2, Port: port, Ver: ver} }
func aTracked(port, ver int, l ...api.Record) api.Message {
	return api.Message{Kind: 3, Port: port, Ver: ver, Records: l}
}

func allRows(l ...api.Row) []api.Message {
	var all []api.Message
	for _, r := range l {
		all = append(all, aRow(r))
	}
	return all
}

func body(t testing.TB, m api.Message) []byte {
	t.Helper()
	b, e := control.Encode(m)
	if e != api.OK {
		t.Fatalf("%+v: %d", m, e)
	}
	return b
}

// flows are so many records.
func flows(n int) []api.Record {
	l := make([]api.Record, n)
	for i := range l {
		l[i] = api.Record{Flow: api.Flow{Proto: api.TCP, Src: 1, Dst: uint32(i), SrcPort: 80, DstPort: 1024 + i}, Until: noon + i}
	}
	return l
}

// host is an agent's side of a controller's line: of which boot it is, the number of the last body that it sent, and how many it got.
type host struct {
	d                       *desk
	chassis, boot, seq, got int
}

// meets is a chassis' agent that the controller knows, and that has nothing to get.
func (d *desk) meets(t testing.TB, chassis int) *host {
	t.Helper()
	h := &host{d, chassis, boot, 0, 0}
	h.gives(t, session.Letter{})
	h.hears(t, allRows(d.Rows()...)...)
	return h
}

// fills is a letter of the agent, that has what it got.
func (h *host) fills(l session.Letter) session.Letter {
	l.Mine, l.Peer, l.Ack = h.boot, h.d.Boot(), h.got
	return l
}

// gives lets the controller take a letter of the agent, and tells what was handed out.
func (h *host) gives(t testing.TB, l session.Letter) api.Message {
	t.Helper()
	l = h.fills(l)
	m, e := h.d.Take(h.chassis, letter(t, l))
	if e != api.OK {
		t.Fatalf("%+v of %d: %d", l, h.chassis, e)
	}
	return m
}

// next is the letter that has the body that comes next.
func (h *host) next(b []byte) session.Letter {
	h.seq++
	return session.Letter{Seq: h.seq, Body: b}
}

// says lets the controller take the message that comes next.
func (h *host) says(t testing.TB, m api.Message) {
	t.Helper()
	if got := h.gives(t, h.next(body(t, m))); !control.Same(got, m) {
		t.Fatalf("handed out %+v; want %+v", got, m)
	}
}

// anew is the agent, started anew, which the controller doesn't know yet.
func (h *host) anew() *host { return &host{h.d, h.chassis, h.boot + 1, 0, 0} }

// letters are those that go to the agent, of which it checks the form.
func (h *host) letters(t testing.TB) []session.Letter {
	t.Helper()
	var all []session.Letter
	for i, b := range h.d.Out(h.chassis) {
		l, e := session.Decode(b)
		if e != api.OK || l.Mine != h.d.Boot() || l.Peer != h.boot || l.Ack != h.seq {
			t.Fatalf("letter %d: %+v, %d; of %+v", i, l, e, *h)
		}
		if l.Seq != 0 && l.Seq != h.got+1+i {
			t.Fatalf("letter %d: of %d; want %d", i, l.Seq, h.got+1+i)
		}
		all = append(all, l)
	}
	return all
}

// queue are the bodies that go to the agent at once.
func (h *host) queue(t testing.TB) []string {
	t.Helper()
	var all []string
	for _, l := range h.letters(t) {
		if l.Seq != 0 {
			all = append(all, string(l.Body))
		}
	}
	return all
}

// hears checks all that goes to the agent, and acknowledges it.
func (h *host) hears(t testing.TB, want ...api.Message) {
	t.Helper()
	var got []api.Message
	for q := h.queue(t); len(q) > 0; q = h.queue(t) {
		for _, b := range q {
			m, e := control.Decode([]byte(b))
			if e != api.OK {
				t.Fatalf("%x: %d", b, e)
			}
			got = append(got, m)
		}
		h.got += len(q)
		h.gives(t, session.Letter{})
	}
	if !slices.EqualFunc(got, want, control.Same) {
		t.Fatalf("%d hears %+v; want %+v", h.chassis, got, want)
	}
}

// idle checks whether the controller is, for this one.
func (h *host) idle(t testing.TB, want bool) {
	t.Helper()
	if h.d.Idle(h.chassis) != want {
		t.Fatalf("Idle of %d is not %v", h.chassis, want)
	}
}

// Numbers that are none of a chassis, or of a port.
func wrongChassis() []int {
	return []int{math.MinInt, -1 << 32, -2, -1, 16, 17, 255, 256, 257, 1<<32 + 1, math.MaxInt}
}

func wrongPorts() []int {
	return []int{math.MinInt, -1 << 32, -2, -1, 32, 33, 255, 256, 257, 1<<32 + 1, math.MaxInt}
}

// wrongOps are those that there aren't.
func wrongOps() []api.Op { return []api.Op{math.MinInt, -2, -1, 8, 9, 255, 256, 258, math.MaxInt} }

// lone is the letter without a body of a controller's boot that knows nobody.
func lone(boot int) session.Letter { return session.Letter{Mine: boot} }

// texts are bytes as texts.
func texts(l [][]byte) []string {
	var all []string
	for _, b := range l {
		all = append(all, string(b))
	}
	return all
}
