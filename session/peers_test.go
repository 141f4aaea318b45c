package session_test

import (
	"slices"
	"strconv"
	"testing"

	"rutter/api"
	"rutter/session"
)

// end is one of two that talk, with what is on its way to it, and what was handed out by it since it was reset.
type end struct {
	s      *session.Session
	boot   int
	wire   [][]byte
	handed []string
	pushed map[[2]int][]string // by its boot, and the other's that it was reset by: what it was pushed since
}

// talk is two ends; events tell how often something happened.
type talk struct {
	ends   [2]*end
	pushes int
	events map[string]int
}

// talks are two ends, each started once.
func talks(t *testing.T) *talk {
	t.Helper()
	k := &talk{events: map[string]int{}}
	for i := range k.ends {
		k.ends[i] = &end{pushed: map[[2]int][]string{}}
		k.boots(t, i)
	}
	return k
}

// knowing are two ends, each of which was reset by the other.
func knowing(t *testing.T) *talk {
	t.Helper()
	k := talks(t)
	for _, i := range []int{0, 1} {
		k.out(t, i)
		k.deliver(t, 1-i, 0)
	}
	return k
}

// boots starts an end anew; what is on its way to it stays so.
func (k *talk) boots(t *testing.T, i int) {
	t.Helper()
	x := k.ends[i]
	x.boot++
	x.s, x.handed = made(t, x.boot), nil
}

// push pushes a body that is no other's.
func (k *talk) push(i int) {
	x := k.ends[i]
	body := strconv.Itoa(k.pushes)
	k.pushes++
	if x.s.Push([]byte(body)) == api.OK {
		key := [2]int{x.boot, x.s.Peer()}
		x.pushed[key] = append(x.pushed[key], body)
	}
}

// out puts the letters that go on their way.
func (k *talk) out(t *testing.T, i int) {
	t.Helper()
	k.sends(t, i, k.ends[i].s.Out())
}

// sends puts letters of an end on their way.
func (k *talk) sends(t *testing.T, i int, letters []session.Letter) {
	t.Helper()
	for _, l := range letters {
		b, e := session.Encode(l)
		if e != api.OK {
			t.Fatalf("%+v: %d", l, e)
		}
		k.ends[1-i].wire = append(k.ends[1-i].wire, b)
	}
}

// comes lets an end take the letter at a place of what is on its way to it, if there is one, which stays there; it looks at P11.2.
func (k *talk) comes(t *testing.T, i, at int) {
	t.Helper()
	x, y := k.ends[i], k.ends[1-i]
	if at >= len(x.wire) {
		return
	}
	l, e := session.Decode(x.wire[at])
	if e != api.OK {
		t.Fatalf("%q: %d", x.wire[at], e)
	}
	took, e := x.s.Take(l)
	if e != api.OK {
		k.events["stale"]++
	}
	if took.Reset {
		k.events["reset"]++
		x.handed = nil
	}
	if took.Got {
		k.events["got"]++
		x.handed = append(x.handed, string(took.Body))
	}
	all := y.pushed[[2]int{x.s.Peer(), x.boot}]
	if len(x.handed) > len(all) || !slices.Equal(x.handed, all[:len(x.handed)]) {
		t.Fatalf("end %d, boot %d: %q of boot %d; pushed was %q", i, x.boot, x.handed, x.s.Peer(), all)
	}
}

// drop lets what is at a place on its way to an end go.
func (k *talk) drop(i, at int) {
	if x := k.ends[i]; at < len(x.wire) {
		x.wire = slices.Delete(x.wire, at, at+1)
	}
}

// deliver lets an end take what is at a place, which goes then.
func (k *talk) deliver(t *testing.T, i, at int) {
	t.Helper()
	k.comes(t, i, at)
	k.drop(i, at)
}

// settles lets all letters come in time, so many rounds, and checks that all that was pushed was handed out then.
func (k *talk) settles(t *testing.T, rounds int) {
	t.Helper()
	for range rounds {
		for i := range k.ends {
			k.out(t, i)
			for len(k.ends[1-i].wire) > 0 {
				k.deliver(t, 1-i, 0)
			}
		}
	}
	for i, x := range k.ends {
		y := k.ends[1-i]
		if all := y.pushed[[2]int{y.boot, x.boot}]; x.s.Peer() != y.boot || x.s.Len() != 0 || !slices.Equal(x.handed, all) {
			t.Fatalf("end %d: Peer %d, Len %d, %q; pushed was %q", i, x.s.Peer(), x.s.Len(), x.handed, all)
		}
	}
}

// TestInOrder: P11.2: with letters that come, all bodies come, in order, both ways, whenever they were pushed.
func TestInOrder(t *testing.T) {
	k := knowing(t)
	k.settles(t, 1)
	for n := range 70 {
		for j := range n {
			k.push(j % 2)
			k.push(0)
		}
		k.settles(t, 12)
	}
	if k.events["got"] < 3000 || k.events["reset"] != 2 || k.events["stale"] != 0 {
		t.Errorf("%v", k.events)
	}
}

// TestInOrderAnew: P11.2: a boot behind the other, of one end, and of the other: nothing of what was ahead comes any more, also if letters are late.
func TestInOrderAnew(t *testing.T) {
	k := knowing(t)
	for n := range 60 {
		for range 3 {
			k.push(0)
			k.push(1)
		}
		k.out(t, n%2)
		k.deliver(t, 1-n%2, 0)
		late := [2][]session.Letter{k.ends[0].s.Out(), k.ends[1].s.Out()}
		k.boots(t, n%2)
		for _, rounds := range []int{4, 2, 2} {
			k.push(0)
			k.push(1)
			k.sends(t, 0, late[0])
			k.sends(t, 1, late[1])
			k.settles(t, rounds)
		}
	}
	if k.events["got"] < 300 || k.events["stale"] < 300 {
		t.Errorf("%v", k.events)
	}
}

// TestTalks: P11.2: all orders of six of these: bodies, letters that go, come, come in another order, stay to come again, and boots, of two that know one another.
func TestTalks(t *testing.T) {
	steps := []func(k *talk){
		func(k *talk) { k.push(0) },
		func(k *talk) { k.push(0); k.out(t, 0) },
		func(k *talk) { k.out(t, 1) },
		func(k *talk) { k.deliver(t, 0, 0) },
		func(k *talk) { k.comes(t, 1, 0) },
		func(k *talk) { k.deliver(t, 1, max(0, len(k.ends[1].wire)-1)) },
		func(k *talk) { k.boots(t, 0) },
		func(k *talk) { k.boots(t, 1) },
	}
	got := 0
	for order := range 8 * 8 * 8 * 8 * 8 * 8 {
		k := knowing(t)
		for left, i := order, 0; i < 6; left, i = left/8, i+1 {
			steps[left%8](k)
		}
		got += k.events["got"]
	}
	if got < 30000 {
		t.Errorf("%d bodies came", got)
	}
}

// step does any step; of so many losses one is a boot instead.
func (c *chance) step(t *testing.T, k *talk, seldom int) {
	i := c.below(2)
	at := c.below(1 + len(k.ends[i].wire))
	switch n := c.below(20); {
	case n < 4:
		k.push(i)
	case n < 9:
		k.out(t, i)
	case n < 16:
		k.deliver(t, i, at)
	case n < 18:
		k.comes(t, i, at)
	case n == 18:
		k.deliver(t, i, 0)
	case c.below(seldom) == 0:
		k.boots(t, i)
	default:
		k.drop(i, at)
	}
	for len(k.ends[i].wire) > 60 {
		k.drop(i, c.below(len(k.ends[i].wire)))
	}
}

// TestAnyTalk: P11.2: letters that are lost, doubled, late and turned about, boots of both, and at last letters that come.
func TestAnyTalk(t *testing.T) {
	c, events := chance(5), map[string]int{}
	for round := range 300 {
		k := talks(t)
		for range 600 {
			c.step(t, k, 2+round%40)
		}
		k.settles(t, 14)
		for range 20 {
			k.push(c.below(2))
		}
		k.settles(t, 4)
		for x, n := range k.events {
			events[x] += n
		}
	}
	if events["got"] < 10000 || events["reset"] < 2000 || events["stale"] < 1000 {
		t.Errorf("%v", events)
	}
}

// FuzzTalk: as TestAnyTalk: each byte is a step, of chance that it tells; go test runs the seeds alone.
func FuzzTalk(f *testing.F) {
	f.Add([]byte{})
	f.Add([]byte("letters that are lost, doubled, late and turned about"))
	f.Fuzz(func(t *testing.T, l []byte) {
		k, c := talks(t), chance(len(l))
		for _, x := range l {
			c = c<<8 ^ chance(x) ^ c>>56
			c.step(t, k, 1+int(x)%16)
		}
		k.settles(t, 14)
	})
}

// TestAWay: P11.1: two sessions that talk, as README.md tells it.
func TestAWay(t *testing.T) {
	a, b := made(t, 5), made(t, 9)
	takes(t, b, a.Out()[0], taken{reset: true})
	takes(t, a, b.Out()[0], taken{reset: true})
	pushes(t, a, "ab", api.OK)
	pushes(t, a, "c", api.OK)
	l := a.Out()
	takes(t, b, l[1], taken{})
	takes(t, b, l[0], taken{"ab", true, false})
	takes(t, b, l[0], taken{})
	takes(t, a, b.Out()[0], taken{})
	has(t, a, plain{mine: 5, peer: 9, next: 2, queue: []string{"c"}})
	encodes(t, a.Out()[0], []byte("\x00\x00\x00\x00\x05\x00\x00\x00\x00\x09\x00\x00\x00\x00\x00\x00\x00\x00\x00\x00\x00\x02\x00\x01c"))
	pushes(t, a, "", api.ErrArg)
	a = made(t, 6)
	takes(t, b, a.Out()[0], taken{reset: true})
	refuses(t, b, l[1], api.ErrStale)
}
