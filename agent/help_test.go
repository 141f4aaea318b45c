package agent_test

import (
	"math"
	"slices"
	"testing"

	"rutter/agent"
	"rutter/api"
	"rutter/arp"
	"rutter/control"
	"rutter/dpath"
	"rutter/ether"
	"rutter/inet"
	"rutter/session"
)

// An ordinary agent is at here, of boot and of life; the controller is of far. Most is done at noon.
const (
	here = 5
	boot = 3
	life = 10
	far  = 9
	noon = 100
)

// wrongTimes are those that there can't be.
func wrongTimes() []int {
	return []int{math.MinInt, -1 << 40, -1 << 32, -noon, -2, -1, 1<<40 + 1, 1<<40 + 2, 1<<40 + noon, 1 << 41, 1<<63 - 1}
}

// rightTimes are those that there can be, at the edges too.
func rightTimes() []int { return []int{0, 1, noon, 1 << 32, 1<<40 - 1, 1 << 40} }

// mac is a port's usual address.
func mac(port int) uint64 { return 1<<41 + uint64(port) }

// Rows of each phase, with a port's usual address.
func bound(port, owner, gen, ver int) api.Row {
	return api.Row{Port: port, MAC: mac(port), Owner: owner, Target: -1, Old: -1, Gen: gen, Phase: api.Bound, Ver: ver}
}

func moving(port, owner, target, gen, ver int) api.Row {
	return api.Row{Port: port, MAC: mac(port), Owner: owner, Target: target, Old: -1, Gen: gen, Phase: api.Moving, Ver: ver}
}

func moved(port, owner, old, gen, ver int) api.Row {
	return api.Row{Port: port, MAC: mac(port), Owner: owner, Target: -1, Old: old, Gen: gen, Phase: api.Moved, Ver: ver}
}

func gone(port, gen, ver int) api.Row {
	return api.Row{Port: port, MAC: mac(port), Owner: -1, Target: -1, Old: -1, Gen: gen, Phase: api.Gone, Ver: ver}
}

// with is a row with another address.
func with(address uint64, r api.Row) api.Row {
	r.MAC = address
	return r
}

// nth is one of many flows, of which no two are alike.
func nth(i int) api.Flow {
	return api.Flow{Proto: api.TCP, Src: 0x0a000001, Dst: uint32(0x0a000100 + i), SrcPort: 1024 + i, DstPort: 443}
}

// back is a flow's way back, told anew.
func back(f api.Flow) api.Flow {
	f.Src, f.Dst = f.Dst, f.Src
	f.SrcPort, f.DstPort = f.DstPort, f.SrcPort
	return f
}

// until is a record of a flow.
func until(n int, f api.Flow) api.Record { return api.Record{Flow: f, Until: n} }

// many are so many records, of flows from the first one on.
func many(n, end int) []api.Record {
	l := make([]api.Record, n)
	for i := range l {
		l[i] = until(end, nth(i))
	}
	return l
}

// Messages of each kind.
func ofRow(r api.Row) api.Message       { return api.Message{Kind: 1, Row: r} }
func ofAwake(port, ver int) api.Message { return api.Message{Kind: 2, Port: port, Ver: ver} }
func ofFlows(port, ver int, l ...api.Record) api.Message {
	return api.Message{Kind: 3, Port: port, Ver: ver, Records: l}
}

// datagram is a flow's.
func datagram(t testing.TB, f api.Flow) []byte {
	t.Helper()
	b, e := inet.Make(f, []byte("hi"))
	if e != api.OK {
		t.Fatalf("Make of %+v: %d", f, e)
	}
	return b
}

// talks is a frame of IPv4 to an address, of a flow.
func talks(t testing.TB, to uint64, f api.Flow) api.Frame {
	t.Helper()
	return api.Frame{Dst: to, Src: 77, Type: api.TypeIPv4, Load: datagram(t, f)}
}

// rarp announces an address to all.
func rarp(t testing.TB, address uint64) api.Frame {
	t.Helper()
	f, e := arp.RARP(address)
	if e != api.OK {
		t.Fatalf("RARP of %d: %d", address, e)
	}
	return f
}

// asks is a frame of ARP of an op, of an address, to one.
func asks(t testing.TB, to, address uint64, op int, spa, tpa uint32) api.Frame {
	t.Helper()
	b, e := arp.Encode(arp.ARP{Op: op, SHA: address, SPA: spa, TPA: tpa})
	if e != api.OK {
		t.Fatalf("ARP of %d: %d", address, e)
	}
	return api.Frame{Dst: to, Src: address, Type: api.TypeARP, Load: b}
}

// announcements are frames that announce an address, each in another way, to all.
func announcements(t testing.TB, address uint64) []api.Frame {
	t.Helper()
	padded := rarp(t, address)
	padded.Load = append(padded.Load, make([]byte, 18)...)
	return []api.Frame{rarp(t, address), padded, asks(t, api.MaxMAC, address, 1, 7, 7), asks(t, api.MaxMAC, address, 2, 7, 7), asks(t, api.MaxMAC, address, 1, 0, 0)}
}

// raw are a frame's bytes.
func raw(t testing.TB, f api.Frame) []byte {
	t.Helper()
	b, e := ether.Encode(f)
	if e != api.OK {
		t.Fatalf("%+v: %d", f, e)
	}
	return b
}

// Packets of both kinds that come here over chassis 4, from 4 or 2.
func normal(t testing.TB, port, gen int, f api.Frame) api.Packet {
	t.Helper()
	return api.Packet{Kind: api.Normal, Origin: 4, From: 4, To: here, Port: port, Gen: gen, ID: 8, Frame: raw(t, f)}
}

func forwarded(t testing.TB, port, gen int, f api.Frame) api.Packet {
	t.Helper()
	return api.Packet{Kind: api.Forward, Origin: 2, From: 4, To: here, Port: port, Gen: gen, ID: 8, Frame: raw(t, f)}
}

// Outcomes.
func delivered(t testing.TB, port, gen, stamp int, f api.Frame) dpath.Outcome {
	t.Helper()
	return dpath.Outcome{Kind: 1, Port: port, Gen: gen, Stamp: stamp, Frame: raw(t, f)}
}

func sent(t testing.TB, to, port, gen, id int, f api.Frame) dpath.Outcome {
	t.Helper()
	return dpath.Outcome{Kind: 2, Packet: api.Packet{Kind: api.Normal, Origin: here, From: here, To: to, Port: port, Gen: gen, ID: id, Frame: raw(t, f)}}
}

// onward is the outcome of a packet that is sent on.
func onward(p api.Packet, to, gen int) dpath.Outcome {
	p.Kind, p.From, p.To, p.Gen = api.Forward, p.To, to, gen
	return dpath.Outcome{Kind: 2, Packet: p}
}

// samePacket holds two packets against each other without the program.
func samePacket(a, b api.Packet) bool {
	numbers := func(p api.Packet) [7]int {
		return [...]int{int(p.Kind), p.Origin, p.From, p.To, p.Port, p.Gen, p.ID}
	}
	return numbers(a) == numbers(b) && string(a.Frame) == string(b.Frame)
}

// same holds two outcomes against each other, all that stands in them.
func same(a, b dpath.Outcome) bool {
	numbers := func(o dpath.Outcome) [4]int { return [...]int{o.Kind, o.Port, o.Gen, o.Stamp} }
	return numbers(a) == numbers(b) && string(a.Frame) == string(b.Frame) && samePacket(a.Packet, b.Packet)
}

// letter are a letter's bytes.
func letter(t testing.TB, l session.Letter) []byte {
	t.Helper()
	b, e := session.Encode(l)
	if e != api.OK {
		t.Fatalf("%+v: %d", l, e)
	}
	return b
}

// body are a message's bytes.
func body(t testing.TB, m api.Message) []byte {
	t.Helper()
	b, e := control.Encode(m)
	if e != api.OK {
		t.Fatalf("%+v: %d", m, e)
	}
	return b
}

// made is a new agent.
func made(t testing.TB, chassis, boot, life int) *agent.Agent {
	t.Helper()
	a, e := agent.New(chassis, boot, life)
	if a == nil || e != api.OK {
		t.Fatalf("New %d %d %d: %v, %d", chassis, boot, life, a, e)
	}
	return a
}

// line is an agent, and what its controller did: of which boot it is, the number of the last body that it sent, and how many of the agent's it has.
type line struct {
	*agent.Agent
	boot, far, seq, got int
}

// met is a line of an agent of a chassis, that knows the controller, and heard these rows.
func met(t testing.TB, chassis int, rows ...api.Row) *line {
	t.Helper()
	l := &line{made(t, chassis, boot, life), boot, far, 0, 0}
	l.gets(t, noon, session.Letter{})
	for _, r := range rows {
		l.hears(t, noon, ofRow(r))
	}
	return l
}

// gets lets the agent take a letter of its controller, that has what it got.
func (l *line) gets(t testing.TB, now int, x session.Letter) {
	t.Helper()
	x.Mine, x.Peer, x.Ack = l.far, l.boot, l.got
	if e := l.Take(letter(t, x), now); e != api.OK {
		t.Fatalf("Take of %+v at %d: %d", x, now, e)
	}
}

// says lets the agent take the body that comes next, and checks that it is acknowledged.
func (l *line) says(t testing.TB, now int, b []byte) {
	t.Helper()
	l.seq++
	l.gets(t, now, session.Letter{Seq: l.seq, Body: b})
	for _, x := range l.letters(t) {
		if x.Ack != l.seq {
			t.Fatalf("acknowledges %d; want %d", x.Ack, l.seq)
		}
	}
}

// hears lets it take the message that comes next.
func (l *line) hears(t testing.TB, now int, m api.Message) {
	t.Helper()
	l.says(t, now, body(t, m))
}

// anew is another boot of the controller, that tells nothing.
func (l *line) anew(t testing.TB, now int) {
	t.Helper()
	l.far++
	l.seq, l.got = 0, 0
	l.gets(t, now, session.Letter{})
}

// letters are those that go, of which it checks the form.
func (l *line) letters(t testing.TB) []session.Letter {
	t.Helper()
	var all []session.Letter
	for i, b := range l.Out() {
		x, e := session.Decode(b)
		if e != api.OK || x.Mine != l.boot || x.Peer != l.far {
			t.Fatalf("letter %d: %+v, %d", i, x, e)
		}
		if x.Seq != 0 && x.Seq != l.got+1+i {
			t.Fatalf("letter %d: of %d; want %d", i, x.Seq, l.got+1+i)
		}
		all = append(all, x)
	}
	return all
}

// bodies are all in the queue, as they go, and are acknowledged, at a time.
func (l *line) bodies(t testing.TB, now int) [][]byte {
	t.Helper()
	var all [][]byte
	for len(all) < 300 {
		x := l.letters(t)
		if len(x) == 1 && x[0].Seq == 0 {
			return all
		}
		for _, y := range x {
			all = append(all, y.Body)
		}
		l.got += len(x)
		l.gets(t, now, session.Letter{})
	}
	t.Fatalf("it tells without end: %x", all)
	return nil
}

// tells checks what messages are in the queue, and acknowledges them at a time.
func (l *line) tells(t testing.TB, now int, want ...api.Message) {
	t.Helper()
	var got []api.Message
	for _, b := range l.bodies(t, now) {
		m, e := control.Decode(b)
		if e != api.OK {
			t.Fatalf("%x: %d", b, e)
		}
		got = append(got, m)
	}
	if !slices.EqualFunc(got, want, control.Same) {
		t.Fatalf("tells %+v; want %+v", got, want)
	}
}

// has checks which rows it has.
func (l *line) has(t testing.TB, want ...api.Row) {
	t.Helper()
	if got := l.Rows(); !slices.Equal(got, want) {
		t.Fatalf("rows %+v; want %+v", got, want)
	}
}

// tracks checks which records live at a time.
func (l *line) tracks(t testing.TB, now int, want ...api.Record) {
	t.Helper()
	if got := l.Records(now); !slices.Equal(got, want) {
		t.Fatalf("records at %d: %+v; want %+v", now, got, want)
	}
}

// guest checks what becomes of a guest's frame.
func (l *line) guest(t testing.TB, f api.Frame, now, id int, want dpath.Outcome) {
	t.Helper()
	if o, e := l.Guest(f, now, id); !same(o, want) || e != api.OK {
		t.Fatalf("%+v at %d: %+v, %d; want %+v", f, now, o, e, want)
	}
}

// announces lets a guest's frame announce something, which is dropped.
func (l *line) announces(t testing.TB, now int, f api.Frame) {
	t.Helper()
	l.guest(t, f, now, 1, dpath.Outcome{})
}

// tunnelled checks what becomes of a packet.
func (l *line) tunnelled(t testing.TB, p api.Packet, now int, want dpath.Outcome) {
	t.Helper()
	if o, e := l.Tunnel(p, now); !same(o, want) || e != api.OK {
		t.Fatalf("%+v at %d: %+v, %d; want %+v", p, now, o, e, want)
	}
}

// state is all that can be told of an agent without a call that changes it.
type state struct {
	out       [][]byte
	rows      []api.Row
	records   []api.Record
	long, who int
	idle      bool
}

func stateOf(a *agent.Agent) state {
	return state{a.Out(), a.Rows(), a.Records(math.MinInt), a.Len(), a.Peer(), a.Idle()}
}

// equal tells whether two are the same.
func (s state) equal(o state) bool {
	texts := func(a, b []byte) bool { return string(a) == string(b) }
	return slices.EqualFunc(s.out, o.out, texts) && slices.Equal(s.rows, o.rows) && slices.Equal(s.records, o.records) &&
		s.long == o.long && s.who == o.who && s.idle == o.idle
}

// unchanged checks that a call changes nothing that can be told, behind the next boot of the controller neither: that has all told that is not told yet.
func unchanged(t testing.TB, make func() *line, call func(l *line)) {
	t.Helper()
	a, b := make(), make()
	call(b)
	for range 3 {
		if x, y := stateOf(a.Agent), stateOf(b.Agent); !x.equal(y) {
			t.Fatalf("%+v; want %+v", y, x)
		}
		for _, l := range []*line{a, b} {
			l.bodies(t, noon)
			l.anew(t, noon)
		}
	}
}
