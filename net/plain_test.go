package net_test

import (
	"slices"
	"strconv"
	"testing"

	"rutter/api"
	"rutter/net"
)

// one is an item, told by what can be compared.
type one struct {
	kind, chassis int
	text          string
}

// String tells it in short.
func (x one) String() string {
	return strconv.Itoa(x.kind) + " " + strconv.Itoa(x.chassis) + " " + strconv.Quote(x.text[:min(len(x.text), 40)]) + " of " + strconv.Itoa(len(x.text))
}

// short are the first ones of a list, and how many there are.
func short(l []one) string {
	text := strconv.Itoa(len(l)) + " items"
	for _, x := range l[:min(len(l), 12)] {
		text += "; " + x.String()
	}
	return text
}

// item is it for a net, in memory of its own.
func (x one) item() net.Item {
	return net.Item{Kind: x.kind, Chassis: x.chassis, Bytes: []byte(x.text)}
}

// told is what an item is.
func told(x net.Item) one { return one{x.Kind, x.Chassis, string(x.Bytes)} }

// items are these for a net.
func items(l ...one) []net.Item {
	all := make([]net.Item, len(l))
	for i, x := range l {
		all[i] = x.item()
	}
	return all
}

// nth is one of many items, no two the same, of all kinds at all chassis.
func nth(i int) one { return one{i % 3, i % 16, "item " + strconv.Itoa(i)} }

// many are so many items.
func many(n int) []one {
	l := make([]one, n)
	for i := range l {
		l[i] = nth(i)
	}
	return l
}

// long is a text of n bytes, of which all there are come.
func long(n int) string {
	b := make([]byte, n)
	for i := range b {
		b[i] = byte(7*i + i/256)
	}
	return string(b)
}

// plain is what a net is, told anew in the simplest way.
type plain struct {
	room, lost int
	items      []one
}

// String tells it in short.
func (p plain) String() string {
	return short(p.items) + "; room for " + strconv.Itoa(p.room) + ", " + strconv.Itoa(p.lost) + " lost"
}

// mayBe tells, anew, whether an item may be.
func mayBe(x one) bool {
	known := x.kind == 0 || x.kind == 1 || x.kind == 2
	return known && x.chassis > -1 && x.chassis < 16 && len(x.text) < 2001
}

func (p *plain) put(l ...one) int {
	came := 0
	for _, x := range l {
		if !mayBe(x) || len(p.items) == p.room {
			p.lost++
			continue
		}
		p.items = append(p.items, x)
		came++
	}
	return came
}

func (p *plain) at(i int) (one, api.Errno) {
	for place, x := range p.items {
		if place == i {
			return x, api.OK
		}
	}
	return one{}, api.ErrNone
}

func (p *plain) take(i int) (one, api.Errno) {
	was, e := p.at(i)
	rest := []one{}
	for place, x := range p.items {
		if place != i {
			rest = append(rest, x)
		}
	}
	p.items = rest
	return was, e
}

func (p *plain) double(i int) api.Errno {
	x, e := p.at(i)
	switch {
	case e != api.OK:
		return e
	case len(p.items) == p.room:
		return api.ErrFull
	}
	p.items = append(p.items, x)
	return api.OK
}

func (p *plain) find(kind, chassis int) int {
	for place, x := range p.items {
		if x.kind == kind && x.chassis == chassis {
			return place
		}
	}
	return -1
}

// like tells whether a net tells the same as a plain one, at all of its places, and just beside them, of all kinds and chassis, and of others.
func like(n *net.Net, p *plain) bool {
	if n.Len() != len(p.items) || n.Lost() != p.lost {
		return false
	}
	for i := -1; i <= len(p.items); i++ {
		want, e := p.at(i)
		if x, got := n.At(i); told(x) != want || got != e {
			return false
		}
	}
	for kind := -1; kind <= 3; kind++ {
		for chassis := -1; chassis <= 16; chassis++ {
			if n.Find(kind, chassis) != p.find(kind, chassis) {
				return false
			}
		}
	}
	return true
}

// lists are the items that a net has.
func lists(n *net.Net) []one {
	l := []one{}
	for i := range n.Len() {
		x, _ := n.At(i)
		l = append(l, told(x))
	}
	return l
}

// has checks all that can be told of a net, twice, since asking changes nothing.
func has(t *testing.T, n *net.Net, lost int, l ...one) {
	t.Helper()
	p := &plain{lost: lost, items: l}
	for range 2 {
		if !like(n, p) {
			t.Errorf("%s; %d lost; want %s; %d lost", short(lists(n)), n.Lost(), short(l), lost)
		}
	}
}

// made is a new net with so much room.
func made(t *testing.T, room int) *net.Net {
	t.Helper()
	n, e := net.New(room)
	if n == nil || e != api.OK {
		t.Fatalf("New(%d): %v, %d", room, n, e)
	}
	return n
}

// puts checks how many came in.
func puts(t *testing.T, n *net.Net, want int, l ...one) {
	t.Helper()
	if got := n.Put(items(l...)...); got != want {
		t.Errorf("Put of %s: %d; want %d", short(l), got, want)
	}
}

// takes checks which item is taken.
func takes(t *testing.T, n *net.Net, i int, want one) {
	t.Helper()
	if x, e := n.Take(i); told(x) != want || e != api.OK {
		t.Errorf("Take(%d): %v, %d; want %v", i, told(x), e, want)
	}
}

// noTake checks that there is no item to be taken.
func noTake(t *testing.T, n *net.Net, i int, want api.Errno) {
	t.Helper()
	if x, e := n.Take(i); x.Kind != 0 || x.Chassis != 0 || len(x.Bytes) != 0 || e != want {
		t.Errorf("Take(%d): %v, %d; want none, %d", i, told(x), e, want)
	}
}

// noAt checks that there is no item to be looked at.
func noAt(t *testing.T, n *net.Net, i int, want api.Errno) {
	t.Helper()
	if x, e := n.At(i); x.Kind != 0 || x.Chassis != 0 || len(x.Bytes) != 0 || e != want {
		t.Errorf("At(%d): %v, %d; want none, %d", i, told(x), e, want)
	}
}

// doubles checks what Double tells.
func doubles(t *testing.T, n *net.Net, i int, want api.Errno) {
	t.Helper()
	if e := n.Double(i); e != want {
		t.Errorf("Double(%d): %d; want %d", i, e, want)
	}
}

// finds checks which place is found.
func finds(t *testing.T, n *net.Net, kind, chassis, want int) {
	t.Helper()
	if i := n.Find(kind, chassis); i != want {
		t.Errorf("Find(%d, %d): %d; want %d", kind, chassis, i, want)
	}
}

// holding is a net with so much room, to which these came, and that has them.
func holding(t *testing.T, room int, l ...one) *net.Net {
	t.Helper()
	n := made(t, room)
	puts(t, n, len(l), l...)
	has(t, n, 0, l...)
	return n
}

// rightItems are items that may be: ordinary ones, and the edges of each field.
func rightItems() []one {
	l := []one{{0, 0, ""}, {2, 15, long(2000)}, {0, 3, "up"}, {1, 3, "down"}, {2, 3, "data"}}
	for kind := range 3 {
		for chassis := range 16 {
			l = append(l, one{kind, chassis, "of all kinds"})
		}
	}
	for _, n := range []int{0, 1, 2, 255, 256, 1000, 1514, 1999, 2000} {
		l = append(l, one{1, 7, long(n)})
	}
	return l
}

// wrongItems are items that may not be, each by one thing, and by all.
func wrongItems() []one {
	l := []one{{-1, -1, long(2001)}, {3, 16, long(2001)}}
	for _, n := range beyond(0, 2) {
		l = append(l, one{n, 7, "of no kind"}, one{n, 0, ""})
	}
	for _, n := range beyond(0, 15) {
		l = append(l, one{1, n, "of no chassis"}, one{0, n, ""})
	}
	for _, n := range []int{2001, 2002, 2048, 4000, 4096, 65536, 65536 + 5, 1 << 20} {
		l = append(l, one{1, 7, long(n)}, one{0, 0, long(n)})
	}
	return l
}

// beyond are numbers that do not lie from least to most, just beside them, and far away.
func beyond(least, most int) []int {
	l := []int{least - 1, least - 2, most + 1, most + 2}
	for _, n := range []int{1 << 8, 1 << 16, 1 << 32, 1 << 62} {
		l = append(l, least-n, -n, most-n, most+n+1, n+least, n+most)
	}
	l = append(l, -1<<63, 1<<63-1, -1<<63+least, -1<<63+most)
	return slices.DeleteFunc(l, func(n int) bool { return n >= least && n <= most })
}
