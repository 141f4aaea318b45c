package track_test

import (
	"math"
	"slices"
	"testing"

	"rutter/api"
	"rutter/track"
)

// change turns something of a flow.
type change func(f *api.Flow)

func proto(n int) change   { return func(f *api.Flow) { f.Proto = n } }
func src(n uint32) change  { return func(f *api.Flow) { f.Src = n } }
func dst(n uint32) change  { return func(f *api.Flow) { f.Dst = n } }
func srcPort(n int) change { return func(f *api.Flow) { f.SrcPort = n } }
func dstPort(n int) change { return func(f *api.Flow) { f.DstPort = n } }

// flow is one that may be, whose fields all differ, with that changed.
func flow(c ...change) api.Flow {
	f := api.Flow{Proto: api.TCP, Src: 0x0a000102, Dst: 0xc0a80304, SrcPort: 1024, DstPort: 443}
	for _, change := range c {
		change(&f)
	}
	return f
}

// nth is one of many flows, of which no two are alike.
func nth(i int) api.Flow { return flow(srcPort(2000+i), src(uint32(7*i))) }

// back is a flow's way back, told anew.
func back(f api.Flow) api.Flow {
	f.Src, f.Dst = f.Dst, f.Src
	f.SrcPort, f.DstPort = f.DstPort, f.SrcPort
	return f
}

// until is a record of a flow.
func until(n int, f api.Flow) api.Record { return api.Record{Flow: f, Until: n} }

// mayBe tells, anew, whether a flow may be.
func mayBe(f api.Flow) bool {
	known := f.Proto == 6 || f.Proto == 17
	return known && f.SrcPort >= 0 && f.SrcPort < 65536 && f.DstPort >= 0 && f.DstPort < 65536
}

// end is one of the two who talk.
type end struct {
	addr uint32
	port int
}

// alike tells, anew, whether two flows are: those between the same two ends, whichever began.
func alike(f, g api.Flow) bool {
	a, b := end{f.Src, f.SrcPort}, end{f.Dst, f.DstPort}
	c, d := end{g.Src, g.SrcPort}, end{g.Dst, g.DstPort}
	return f.Proto == g.Proto && (a == c && b == d || a == d && b == c)
}

// plain is what a table is, told anew in the simplest way.
type plain struct {
	life    int
	records []api.Record
}

func (p plain) living(now int) []api.Record {
	l := []api.Record{}
	for _, r := range p.records {
		if now < r.Until {
			l = append(l, r)
		}
	}
	return l
}

func (p plain) place(f api.Flow) int {
	for i, r := range p.records {
		if alike(f, r.Flow) {
			return i
		}
	}
	return -1
}

func (p plain) known(f api.Flow, now int) bool {
	i := p.place(f)
	return i >= 0 && now < p.records[i].Until
}

func (p *plain) note(f api.Flow, now int) api.Errno {
	if !mayBe(f) || now < 0 || now > 1<<40 {
		return api.ErrArg
	}
	p.records = p.living(now)
	then := now + p.life
	if then > 1<<40 {
		then = 1 << 40
	}
	if i := p.place(f); i >= 0 {
		if then > p.records[i].Until {
			p.records[i].Until = then
		}
		return api.OK
	}
	if len(p.records) == 16 {
		return api.ErrFull
	}
	p.records = append(p.records, until(then, f))
	return api.OK
}

func (p *plain) imports(now int, l ...api.Record) int {
	if now < 0 || now > 1<<40 {
		return 0
	}
	p.records = p.living(now)
	n := 0
	for _, r := range l {
		if !mayBe(r.Flow) || r.Until <= now || r.Until > 1<<40 {
			continue
		}
		if i := p.place(r.Flow); i >= 0 {
			if r.Until > p.records[i].Until {
				p.records[i].Until = r.Until
			}
			n++
		} else if len(p.records) < 16 {
			p.records = append(p.records, r)
			n++
		}
	}
	return n
}

// times are some that may be, and some that may not, and those about the ends of a plain table's records.
func (p plain) times() []int {
	l := []int{math.MinInt, -1 << 32, -1, 0, 1, 1 << 32, 1<<40 - 1, 1 << 40, 1<<40 + 1, math.MaxInt}
	for _, r := range p.records {
		l = append(l, r.Until-1, r.Until, r.Until+1)
	}
	return l
}

// like tells whether a table tells the same as a plain one, at all of its times.
func like(s *track.Table, p plain) bool {
	for _, now := range p.times() {
		if !slices.Equal(s.Records(now), p.living(now)) {
			return false
		}
		for _, r := range p.records {
			if want := p.known(r.Flow, now); s.Known(r.Flow, now) != want || s.Known(back(r.Flow), now) != want {
				return false
			}
		}
	}
	return true
}

// has checks all that can be told of a table.
func has(t *testing.T, s *track.Table, p plain) {
	t.Helper()
	if !like(s, p) {
		t.Errorf("%+v; want %+v", s.Records(math.MinInt), p.records)
	}
}

// made is a new table of a life.
func made(t *testing.T, life int) *track.Table {
	t.Helper()
	s, e := track.New(life)
	if s == nil || e != api.OK {
		t.Fatalf("New %d: %v, %d", life, s, e)
	}
	return s
}

// notes checks what Note answers.
func notes(t *testing.T, s *track.Table, f api.Flow, now int, e api.Errno) {
	t.Helper()
	if got := s.Note(f, now); got != e {
		t.Errorf("Note of %+v at %d: %d; want %d", f, now, got, e)
	}
}

// imports checks how many Import tells.
func imports(t *testing.T, s *track.Table, n, now int, l ...api.Record) {
	t.Helper()
	if got := s.Import(now, l...); got != n {
		t.Errorf("Import at %d of %+v: %d; want %d", now, l, got, n)
	}
}

// holding is a table of a life of 10, to which these records came, and that has them.
func holding(t *testing.T, l ...api.Record) *track.Table {
	t.Helper()
	s := made(t, 10)
	imports(t, s, len(l), 0, l...)
	has(t, s, plain{records: l})
	return s
}

// many are so many records, the i-th until 100 and i.
func many(n int) []api.Record {
	l := make([]api.Record, n)
	for i := range l {
		l[i] = until(100+i, nth(i))
	}
	return l
}

// wrongTimes are those that there can't be.
func wrongTimes() []int {
	return []int{math.MinInt, math.MinInt + 1, -1 << 40, -1 << 32, -11, -10, -9, -2, -1, 1<<40 + 1, 1<<40 + 2, 1 << 41, math.MaxInt - 10, math.MaxInt}
}

// rightFlows are flows that may be: ordinary ones, and the edges of each field.
func rightFlows() []api.Flow {
	l := []api.Flow{{Proto: 6}, {Proto: 17}, flow(), flow(proto(17))}
	for _, n := range []int{0, 1, 255, 256, 32768, 65534, 65535} {
		l = append(l, flow(srcPort(n)), flow(dstPort(n)), flow(proto(17), srcPort(n), dstPort(n)))
	}
	for _, n := range []uint32{0, 1, 65536, 1<<31 - 1, 1 << 31, 1<<32 - 1} {
		l = append(l, flow(src(n)), flow(dst(n)), flow(proto(17), src(n), dst(n)))
	}
	return append(l, api.Flow{Proto: 6, Src: 1<<32 - 1, Dst: 1<<32 - 1, SrcPort: 65535, DstPort: 65535})
}

// wrongFlows are flows that may not be, each by one thing, and by all.
func wrongFlows() []api.Flow {
	l := []api.Flow{{}, {Proto: -1, SrcPort: -1, DstPort: 65536}}
	for _, n := range []int{math.MinInt, -6, -1, 0, 1, 5, 7, 16, 18, 255, 262, 273, 1<<32 + 6, math.MaxInt} {
		l = append(l, flow(proto(n)))
	}
	for _, n := range []int{math.MinInt, -65535, -1, 65536, 65537, 65536 + 443, 1<<32 + 80, math.MaxInt} {
		l = append(l, flow(srcPort(n)), flow(dstPort(n)), flow(srcPort(n), dstPort(n)))
	}
	return l
}

// near are flows that differ from one in one field alone, or in what would be its way back; none is alike.
func near() []api.Flow {
	f := flow()
	return []api.Flow{
		flow(proto(17)), flow(src(f.Src + 1)), flow(dst(f.Dst + 1)), flow(srcPort(f.SrcPort + 1)), flow(dstPort(f.DstPort + 1)),
		flow(src(f.Dst)), flow(dst(f.Src)), flow(srcPort(f.DstPort)), flow(dstPort(f.SrcPort)),
		flow(src(f.Dst), dst(f.Src)), flow(srcPort(f.DstPort), dstPort(f.SrcPort)),
		flow(src(f.Dst), srcPort(f.DstPort)), flow(dst(f.Src), dstPort(f.SrcPort)),
		flow(proto(17), src(f.Dst), dst(f.Src), srcPort(f.DstPort), dstPort(f.SrcPort)),
	}
}
