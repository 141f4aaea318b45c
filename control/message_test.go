package control_test

import (
	"math"
	"slices"
	"testing"

	"rutter/api"
	"rutter/control"
)

// turn changes a message.
type turn func(m *api.Message)

func kind(n int) turn              { return func(m *api.Message) { m.Kind = n } }
func has(r api.Row) turn           { return func(m *api.Message) { m.Row = r } }
func of(n int) turn                { return func(m *api.Message) { m.Port = n } }
func at(n int) turn                { return func(m *api.Message) { m.Ver = n } }
func knows(l ...api.Record) turn   { return func(m *api.Message) { m.Records = l } }
func sized(n int) turn             { return knows(records(n)...) }
func flowed(f api.Flow) api.Record { return api.Record{Flow: f, Until: 0x3132333435} }

// records are n of them, all others than one another.
func records(n int) []api.Record {
	l := []api.Record{}
	for i := range n {
		f := api.Flow{Proto: 6 + i%2*11, Src: 0x0a000102 + uint32(i), Dst: 0xc0a80304 - uint32(i), SrcPort: 0x1234 + i, DstPort: 0x5678 - i}
		l = append(l, api.Record{Flow: f, Until: 0x3132333435 + i})
	}
	return l
}

func turned(m api.Message, l []turn) api.Message {
	for _, c := range l {
		c(&m)
	}
	return m
}

// tells is an ordinary message of kind 1, with that changed.
func tells(l ...turn) api.Message { return turned(api.Message{Kind: 1, Row: row(2)}, l) }

// awake is an ordinary message of kind 2, with that changed.
func awake(l ...turn) api.Message {
	return turned(api.Message{Kind: 2, Port: 9, Ver: 0x1112131415}, l)
}

// tracked is an ordinary message of kind 3, with that changed.
func tracked(l ...turn) api.Message {
	return turned(api.Message{Kind: 3, Port: 9, Ver: 0x1112131415, Records: records(3)}, l)
}

// each are ordinary messages of kinds 2 and 3, each with one thing changed.
func each(c ...turn) []api.Message {
	var l []api.Message
	for _, x := range c {
		l = append(l, awake(x), tracked(x))
	}
	return l
}

// recordMayBe is what the chapters say of a record in a message, told anew.
func recordMayBe(x api.Record) bool {
	return (x.Flow.Proto == 6 || x.Flow.Proto == 17) && is(x.Flow.SrcPort, 0, 65535) && is(x.Flow.DstPort, 0, 65535) && is(x.Until, 0, 1099511627776)
}

// mayBe is what the chapter says of a message, told anew.
func mayBe(m api.Message) bool {
	named := is(m.Port, 0, 31) && is(m.Ver, 1, 1099511627776)
	unnamed := m.Port == 0 && m.Ver == 0
	rowless := slices.Equal(numbers(api.Message{Row: m.Row}), numbers(api.Message{}))
	most := [...]int{0, 0, 16}
	if !is(m.Kind, 1, 3) || len(m.Records) > most[m.Kind-1] {
		return false
	}
	for _, x := range m.Records {
		if !recordMayBe(x) {
			return false
		}
	}
	if m.Kind == 1 {
		return rowMayBe(m.Row) && unnamed
	}
	return rowless && named
}

// numbers are all that a message has, one behind the other.
func numbers(m api.Message) []uint64 {
	l := []uint64{m.Row.MAC}
	for _, n := range []int{m.Kind, m.Port, m.Ver, m.Row.Port, m.Row.Owner, m.Row.Target, m.Row.Old, m.Row.Gen, int(m.Row.Phase), m.Row.Ver, m.Row.Since} {
		l = append(l, uint64(n))
	}
	for _, x := range m.Records {
		l = append(l, uint64(x.Flow.Proto), uint64(x.Flow.Src), uint64(x.Flow.Dst), uint64(x.Flow.SrcPort), uint64(x.Flow.DstPort), uint64(x.Until))
	}
	return l
}

// same holds two messages against each other without the program.
func same(a, b api.Message) bool { return slices.Equal(numbers(a), numbers(b)) }

// rightRecords are records that may stand in a message, at the edges of each field.
func rightRecords() []api.Record {
	l := []api.Record{{Flow: api.Flow{Proto: 6}}, {Flow: api.Flow{Proto: 17}}, records(1)[0], records(2)[1]}
	for _, n := range []int{0, 1, 255, 256, 65534, 65535} {
		f, g := records(1)[0].Flow, records(1)[0].Flow
		f.SrcPort, g.DstPort = n, n
		l = append(l, flowed(f), flowed(g))
	}
	for _, n := range []uint32{0, 1, 1<<31 - 1, 1 << 31, 1<<32 - 1} {
		f, g := records(1)[0].Flow, records(1)[0].Flow
		f.Src, g.Dst = n, n
		l = append(l, flowed(f), flowed(g))
	}
	for _, n := range []int{0, 1, 1 << 32, 1<<40 - 1, 1 << 40} {
		l = append(l, api.Record{Flow: records(1)[0].Flow, Until: n})
	}
	return append(l, api.Record{Flow: api.Flow{Proto: 17, Src: 1<<32 - 1, Dst: 1<<32 - 1, SrcPort: 65535, DstPort: 65535}, Until: 1 << 40})
}

// wrongRecords are records that may not, each by one thing, and by all.
func wrongRecords() []api.Record {
	l := []api.Record{{}}
	for _, n := range append(beyond(), -1, 0, 5, 7, 16, 18, 255, 256, 256+6, 256+17, 1<<32+6) {
		f := records(1)[0].Flow
		f.Proto = n
		l = append(l, flowed(f))
	}
	for _, n := range append(beyond(), -2, -1, 65536, 65537, 65536+80, 1<<32+80) {
		f, g := records(1)[0].Flow, records(1)[0].Flow
		f.SrcPort, g.DstPort = n, n
		l = append(l, flowed(f), flowed(g))
	}
	for _, n := range append(beyond(), -2, -1, 1<<40+1) {
		l = append(l, api.Record{Flow: records(1)[0].Flow, Until: n})
	}
	return append(l, api.Record{Flow: api.Flow{Proto: -1, SrcPort: -1, DstPort: -1}, Until: -1})
}

// rightMessages are messages that may be: ordinary ones, and the edges of each field.
func rightMessages() []api.Message {
	l := []api.Message{tells(), awake(), tracked()}
	for _, r := range rightRows() {
		l = append(l, tells(has(r)))
	}
	for _, n := range []int{0, 1, 15, 16, 30, 31} {
		l = append(l, each(of(n))...)
	}
	for _, n := range []int{1, 2, 255, 256, 1 << 32, 1<<32 + 1, 1<<40 - 1, 1 << 40} {
		l = append(l, each(at(n))...)
	}
	for n := range 17 {
		l = append(l, tracked(sized(n)))
	}
	for _, x := range rightRecords() {
		l = append(l, tracked(knows(x)), tracked(knows(append(records(15), x)...)), tracked(knows(x, x, x)))
	}
	l = append(l, tells(knows()), tells(sized(0)), awake(knows()), awake(sized(0)), tracked(knows()))
	return append(l, awake(of(0), at(1)), tracked(of(0), at(1), knows()), tracked(of(31), at(1<<40), sized(16)))
}

// oddRows are rows that are not 0, most of them by one field alone.
func oddRows() []api.Row {
	l := []api.Row{{MAC: 1}, {MAC: 1 << 63}}
	for _, n := range []int{1, -1, 1 << 40, math.MinInt64} {
		l = append(l, api.Row{Port: n}, api.Row{Owner: n}, api.Row{Target: n}, api.Row{Old: n}, api.Row{Gen: n}, api.Row{Phase: api.Phase(n)}, api.Row{Ver: n}, api.Row{Since: n})
	}
	return append(l, row(0), row(3), api.Row{Owner: -1, Target: -1, Old: -1, Phase: 3})
}

// wrongMessages are messages that may not be, each by one thing, and by more of them.
func wrongMessages() []api.Message {
	l := []api.Message{{}, {Kind: 1}, {Kind: 2}, {Kind: 3}}
	for _, n := range append(beyond(), -1, 0, 4, 5, 255, 256, 257, 258, 259, 1<<32+1) {
		l = append(l, tells(kind(n)), awake(kind(n)), tracked(kind(n)))
	}
	for _, r := range wrongRows() {
		l = append(l, tells(has(r)))
	}
	for _, n := range append(beyond(), 1, 31, 32, -1) {
		l = append(l, tells(of(n)), tells(at(n)))
	}
	for _, r := range oddRows() {
		l = append(l, each(has(r))...)
	}
	l = append(l, tells(sized(1)), tells(sized(16)), awake(sized(1)), awake(sized(16)), tells(knows(api.Record{})), awake(knows(api.Record{})))
	for _, n := range append(beyond(), -2, -1, 32, 33, 255, 256, 256+9) {
		l = append(l, each(of(n))...)
	}
	for _, n := range append(beyond(), -1, 0, 1<<40+1) {
		l = append(l, each(at(n))...)
	}
	for _, n := range []int{17, 18, 255, 256, 257, 256 + 3} {
		l = append(l, tracked(sized(n)))
	}
	for _, x := range wrongRecords() {
		l = append(l, tracked(knows(x)), tracked(knows(append(records(15), x)...)), tracked(knows(append([]api.Record{x}, records(15)...)...)))
	}
	l = append(l, tells(kind(2)), tells(kind(3)), awake(kind(1)), tracked(kind(1)), tracked(kind(2)))
	return append(l, tracked(has(row(0)), of(32), at(0), knows(api.Record{})))
}

// TestRight: P6.1: which messages may be, at each edge.
func TestRight(t *testing.T) {
	for i, m := range rightMessages() {
		if !mayBe(m) {
			t.Fatalf("right message %d: the test is wrong", i)
		}
		if !control.Right(m) {
			t.Errorf("right message %d: %+v", i, m)
		}
	}
	for i, m := range wrongMessages() {
		if mayBe(m) {
			t.Fatalf("wrong message %d: the test is wrong", i)
		}
		if control.Right(m) {
			t.Errorf("wrong message %d: %+v", i, m)
		}
	}
}

// TestRightHas: P6.1: each kind, with all that there is, and that there isn't.
func TestRightHas(t *testing.T) {
	lists := [][]api.Record{nil, {}, records(1), records(16), records(17), {{}}}
	for k := -1; k <= 5; k++ {
		for _, r := range append(oddRows(), api.Row{}, row(1), row(2), row(1, gen(0))) {
			for _, p := range []int{-1, 0, 1, 31, 32} {
				for _, v := range []int{-1, 0, 1, 1 << 40, 1<<40 + 1} {
					for _, l := range lists {
						m := api.Message{Kind: k, Row: r, Port: p, Ver: v, Records: l}
						if got := control.Right(m); got != mayBe(m) {
							t.Errorf("%+v: %t", m, got)
						}
					}
				}
			}
		}
	}
}

// TestRightRecords: P6.1: 16 records at most; a wrong one counts, wherever it stands.
func TestRightRecords(t *testing.T) {
	for n := range 40 {
		if control.Right(tracked(sized(n))) != (n <= 16) {
			t.Errorf("%d records", n)
		}
		if !control.Right(tracked(knows(records(40)[:min(n, 16)]...))) {
			t.Errorf("%d records, and room", n)
		}
		for i := range min(n, 16) {
			for _, x := range wrongRecords() {
				l := records(min(n, 16))
				l[i] = x
				if control.Right(tracked(knows(l...))) {
					t.Errorf("%d records, at %d %+v", n, i, x)
				}
			}
		}
	}
	if control.Right(tracked(sized(1 << 16))) {
		t.Error("65536 records")
	}
}

// TestSame: P6.1: two have the same, or differ in one field alone, the one way round and the other.
func TestSame(t *testing.T) {
	check := func(a, b api.Message, want bool) {
		t.Helper()
		if control.Same(a, b) != want || control.Same(b, a) != want {
			t.Errorf("%+v, %+v: not %t", a, b, want)
		}
	}
	full := func(l ...turn) api.Message {
		return turned(api.Message{Kind: 3, Row: row(1), Port: 9, Ver: 7, Records: records(3)}, l)
	}
	one := []turn{kind(1), kind(-1), of(8), of(-1), at(6), at(-1), has(api.Row{}), knows(), sized(2), sized(4)}
	for _, c := range []change{port(8), mac(1), owner(2), target(7), old(8), gen(1), phase(2), ver(1), since(1)} {
		one = append(one, has(row(1, c)))
	}
	for i := range 3 {
		for _, c := range []func(x *api.Record){
			func(x *api.Record) { x.Flow.Proto = 1 }, func(x *api.Record) { x.Flow.Src++ }, func(x *api.Record) { x.Flow.Dst++ },
			func(x *api.Record) { x.Flow.SrcPort++ }, func(x *api.Record) { x.Flow.DstPort++ }, func(x *api.Record) { x.Until++ },
		} {
			l := records(3)
			c(&l[i])
			one = append(one, knows(l...))
		}
	}
	check(full(), full(), true)
	check(full(), api.Message{}, false)
	for i, c := range one {
		check(full(), full(c), false)
		check(full(c), full(c), true)
		for _, d := range one[:i] {
			check(full(c), full(d), false)
		}
	}
	check(full(of(7), at(9)), full(), false)
	l := records(3)
	l[0], l[2] = l[2], l[0]
	check(full(knows(l...)), full(), false)
}

// TestSameBits: P6.1: each bit of each number counts; nothing wraps round.
func TestSameBits(t *testing.T) {
	for k := range 64 {
		for i, c := range []turn{
			func(m *api.Message) { m.Kind ^= 1 << k },
			func(m *api.Message) { m.Port ^= 1 << k },
			func(m *api.Message) { m.Ver ^= 1 << k },
			func(m *api.Message) { m.Row.Port ^= 1 << k },
			func(m *api.Message) { m.Row.MAC ^= 1 << k },
			func(m *api.Message) { m.Row.Owner ^= 1 << k },
			func(m *api.Message) { m.Row.Target ^= 1 << k },
			func(m *api.Message) { m.Row.Old ^= 1 << k },
			func(m *api.Message) { m.Row.Gen ^= 1 << k },
			func(m *api.Message) { m.Row.Phase ^= 1 << k },
			func(m *api.Message) { m.Row.Ver ^= 1 << k },
			func(m *api.Message) { m.Row.Since ^= 1 << k },
			func(m *api.Message) { m.Records[1].Flow.Proto ^= 1 << k },
			func(m *api.Message) { m.Records[1].Flow.Src ^= 1 << (k % 32) },
			func(m *api.Message) { m.Records[1].Flow.Dst ^= 1 << (k % 32) },
			func(m *api.Message) { m.Records[1].Flow.SrcPort ^= 1 << k },
			func(m *api.Message) { m.Records[1].Flow.DstPort ^= 1 << k },
			func(m *api.Message) { m.Records[1].Until ^= 1 << k },
		} {
			if a, b := tracked(), tracked(c); control.Same(a, b) || control.Same(b, a) || !control.Same(b, b) {
				t.Errorf("field %d: bit %d", i, k)
			}
		}
	}
}

// TestSameRecords: P6.1: how many records there are counts; what lies behind them doesn't, and nothing is nothing.
func TestSameRecords(t *testing.T) {
	for n := range 20 {
		for m := range 20 {
			if control.Same(tracked(sized(n)), tracked(knows(records(20)[:m]...))) != (n == m) {
				t.Errorf("%d, %d", n, m)
			}
		}
	}
	none, empty := awake(), awake(sized(0))
	if none.Records != nil || empty.Records == nil || !control.Same(none, empty) || !control.Same(empty, none) {
		t.Error("nothing isn't the same as nothing")
	}
	if control.Same(none, awake(knows(api.Record{}))) {
		t.Error("nothing is the same as a record of nothing")
	}
}

// TestSameAll: P6.1: of all that may be, and that may not be, each is the same as itself, and as those alone that have the same.
func TestSameAll(t *testing.T) {
	l := append(rightMessages(), wrongMessages()...)
	var all [][]uint64
	for _, m := range l {
		all = append(all, numbers(m))
	}
	for i, a := range l {
		for j, b := range l {
			if got := control.Same(a, b); got != slices.Equal(all[i], all[j]) {
				t.Errorf("%d, %d: %t", i, j, got)
			}
		}
	}
}
