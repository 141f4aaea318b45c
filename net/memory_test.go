package net_test

import (
	"slices"
	"testing"

	"rutter/api"
	"rutter/net"
)

// spoil writes into all that a list's memory has.
func spoil[T any](l []T, with T) {
	l = l[:cap(l)]
	for i := range l {
		l[i] = with
	}
}

// roomy is an item's like, behind whose bytes there is room with something in it, and all of that.
func roomy(x one) (net.Item, []byte) {
	b := []byte(x.text + "what lies behind")
	return net.Item{Kind: x.kind, Chassis: x.chassis, Bytes: b[:len(x.text)]}, b
}

// texts are of the lengths at which memory is got by other ways.
func texts() []one {
	l := []one{}
	for i, n := range []int{0, 1, 7, 8, 9, 16, 31, 32, 33, 64, 1000, 1999, 2000} {
		l = append(l, one{i % 3, i, long(n)})
	}
	return l
}

// TestPutKeepsNothing: rule 4: what was handed in is in the net as it was, whatever its owner does with it then.
func TestPutKeepsNothing(t *testing.T) {
	n := made(t, 99)
	for i, x := range texts() {
		y, b := roomy(x)
		if n.Put(y) != 1 {
			t.Fatalf("Put of %d bytes", len(x.text))
		}
		spoil(b, '!')
		has(t, n, 0, texts()[:i+1]...)
	}
	for _, x := range texts() {
		takes(t, n, 0, x)
	}
}

// TestPutKeepsNoList: rule 4: nor is the list kept, nor what came in of it at the second place, and others.
func TestPutKeepsNoList(t *testing.T) {
	for _, ahead := range []int{0, 1, 3} {
		n := holding(t, 99, many(ahead)...)
		l := items(texts()...)
		if got := n.Put(l...); got != len(l) {
			t.Fatalf("Put: %d", got)
		}
		for _, x := range l {
			spoil(x.Bytes, '!')
		}
		spoil(l, net.Item{Kind: 1, Chassis: 9, Bytes: []byte("!")})
		has(t, n, 0, append(many(ahead), texts()...)...)
	}
}

// TestPutWritesNothing: rule 4: what is handed in is not written into, nor what lies behind it, whether it comes in or not, by no call.
func TestPutWritesNothing(t *testing.T) {
	for _, room := range []int{0, 1, 4, 40} {
		n := made(t, room)
		var bytes [][]byte
		list := []net.Item{}
		for _, x := range append(texts(), wrongItems()...) {
			y, b := roomy(x)
			bytes, list = append(bytes, b), append(list, y)
		}
		list = append(list, nth(1).item(), nth(2).item())
		want := slices.Clone(list)
		n.Put(list[:len(list)-2]...)
		n.Double(0)
		if x, e := n.Take(0); e == api.OK {
			spoil(x.Bytes, '!')
		}
		n.Put(nth(5).item(), nth(6).item())
		for i, x := range append(texts(), wrongItems()...) {
			if string(bytes[i]) != x.text+"what lies behind" {
				t.Errorf("room %d: written into: %.60q", room, bytes[i])
			}
		}
		for i, x := range list {
			if told(x) != told(want[i]) {
				t.Errorf("room %d: written into the list at %d: %v", room, i, told(x))
			}
		}
	}
}

// TestPutByLength: rule 4: what lies behind a list's length, and behind an item's bytes, doesn't come in.
func TestPutByLength(t *testing.T) {
	n, l := made(t, 9), items(many(5)...)
	l[1].Bytes = l[1].Bytes[:4]
	l[2].Bytes = l[2].Bytes[:0]
	if n.Put(l[:3]...) != 3 {
		t.Error("Put")
	}
	has(t, n, 0, nth(0), one{1, 1, "item"}, one{2, 2, ""})
	if n.Put(l[:0]...) != 0 {
		t.Error("Put of none")
	}
	has(t, n, 0, nth(0), one{1, 1, "item"}, one{2, 2, ""})
}

// TestPutOfOneMemory: rule 4: items of one memory are apart in the net.
func TestPutOfOneMemory(t *testing.T) {
	n, b := made(t, 9), []byte("one memory")
	n.Put(net.Item{Bytes: b}, net.Item{Kind: 1, Bytes: b}, net.Item{Kind: 2, Bytes: b[4:]})
	x, _ := n.Take(0)
	spoil(x.Bytes, '!')
	spoil(b, '?')
	has(t, n, 0, one{1, 0, "one memory"}, one{2, 0, "memory"})
}

// TestAtIsNew: rule 4: who writes into what At told turns nothing of the net, nor of another answer.
func TestAtIsNew(t *testing.T) {
	n := holding(t, 99, texts()...)
	for i, x := range texts() {
		a, _ := n.At(i)
		b, _ := n.At(i)
		_ = append(a.Bytes, "!!!!"...)
		spoil(a.Bytes, '!')
		if told(b) != x {
			t.Errorf("another answer: %v", told(b))
		}
		has(t, n, 0, texts()...)
		c, _ := n.Take(i)
		spoil(b.Bytes, '?')
		if told(c) != x {
			t.Errorf("taken: %v", told(c))
		}
		n.Put(c)
		for range len(texts()) - 1 - i {
			y, _ := n.Take(i)
			n.Put(y)
		}
		has(t, n, 0, texts()...)
	}
}

// TestTakenIsNew: rule 4: who writes into what was taken turns nothing of the net; and it stays, whatever is done with that.
func TestTakenIsNew(t *testing.T) {
	for i, x := range texts() {
		n := holding(t, 99, texts()...)
		rest := slices.Delete(texts(), i, i+1)
		a, _ := n.Take(i)
		n.Put(items(many(9)...)...)
		n.Double(0)
		n.Take(1)
		if told(a) != x {
			t.Errorf("it did not stay: %v", told(a))
		}
		_ = append(a.Bytes, "!!!!"...)
		spoil(a.Bytes, '!')
		has(t, n, 0, append(slices.Delete(append(rest, many(9)...), 1, 2), rest[0])...)
	}
}

// TestDoubledIsApart: rule 4: one that was doubled, and its like, share no memory, whichever is taken first, and written into.
func TestDoubledIsApart(t *testing.T) {
	for _, x := range texts() {
		for first := range 3 {
			n := holding(t, 3, x)
			doubles(t, n, 0, api.OK)
			doubles(t, n, first&1, api.OK)
			a, e := n.Take(first)
			if e != api.OK || told(a) != x {
				t.Errorf("Take(%d): %v, %d", first, told(a), e)
			}
			_ = append(a.Bytes, "!!!!"...)
			spoil(a.Bytes, '!')
			has(t, n, 0, x, x)
			b, _ := n.Take(1)
			spoil(b.Bytes, '?')
			has(t, n, 0, x)
		}
	}
}

// TestTakenComesAgain: rule 4: what was taken, and is put again, and written into then, is in the net as it was.
func TestTakenComesAgain(t *testing.T) {
	for _, x := range texts() {
		n := holding(t, 2, x)
		a, _ := n.Take(0)
		n.Put(a, a)
		spoil(a.Bytes, '!')
		has(t, n, 0, x, x)
	}
}
