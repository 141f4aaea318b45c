package inet_test

import (
	"bytes"
	"testing"

	"rutter/inet"
)

// plainCheck is the check of bytes, told anew: to add what is above the lowest 16 bits to these leaves what is left by 65535 as it is.
func plainCheck(b []byte) int {
	all := 0
	for i, c := range b {
		if i%2 == 0 {
			all += 255 * int(c)
		}
		all += int(c)
	}
	if all == 0 {
		return 65535
	}
	return 65534 - (all-1)%65535
}

// checks checks the check of bytes.
func checks(t *testing.T, b []byte, want int) {
	t.Helper()
	if got := inet.Check(b); got != want {
		t.Errorf("%d bytes, %.40q: %d; want %d", len(b), b, got, want)
	}
}

// TestCheck: P4.1: the check of bytes, worked out by hand.
func TestCheck(t *testing.T) {
	for b, want := range map[string]int{
		"\x00\x01":                 65534,
		"\x01\x00":                 65279,
		"\x12\x34":                 0xedcb,
		"\x12\x34\x56\x78":         0x9753,
		"\x80\x00":                 0x7fff,
		"\x80\x00\x80\x00":         0xfffe,
		"\xff\xff":                 0,
		"\xff\xfe":                 1,
		"\xff\xff\xff\xff":         0,
		"\x00\x01\xf2\x03\xf4\xf5": 0x1905,
		"\x45\x00\x00\x73\x00\x00\x40\x00\x40\x11\x00\x00\xc0\xa8\x00\x01\xc0\xa8\x00\xc7": 0xb861,
		"\x45\x00\x00\x73\x00\x00\x40\x00\x40\x11\xb8\x61\xc0\xa8\x00\x01\xc0\xa8\x00\xc7": 0,
	} {
		checks(t, []byte(b), want)
	}
}

// TestCheckFolds: P4.1: sums of just 65535 and 65536 (the one is not folded, the other is), and of those that have to be folded twice.
func TestCheckFolds(t *testing.T) {
	for b, want := range map[string]int{
		"\xff\xfe\x00\x01":                 0,          // 65535
		"\x7f\xff\x80\x00":                 0,          // 65535
		"\xff\xff\x00\x00":                 0,          // 65535
		"\xff\xff\x00\x01":                 65534,      // 65536: 1
		"\x80\x00\x80\x00\x00\x00":         65534,      // 65536: 1
		"\xff\xff\x00\x02":                 65533,      // 65537: 2
		"\xff\xff\xff\xff":                 0,          // 131070: 65535
		"\xff\xff\xff\xff\x00\x01":         65534,      // 131071: 65536: 1
		"\xff\xff\x00\x01\xff\xff":         65534,      // 131071: 65536: 1
		"\xff\xff\xff\xff\x00\x02":         65533,      // 131072: 2
		"\xff\xff\xff\xff\xff\xff\x00\x02": 65535 - 2,  // 196607: 65537: 2
		"\xff\xff\xff\xff\xff\xff\x00\x0a": 65535 - 10, // 196615: 65545: 10
	} {
		checks(t, []byte(b), want)
	}
}

// TestCheckFew: P4.1: no bytes, and one.
func TestCheckFew(t *testing.T) {
	checks(t, nil, 65535)
	checks(t, []byte{}, 65535)
	for c := range 256 {
		checks(t, []byte{byte(c)}, 65535-256*c)
		checks(t, []byte{byte(c), 0}, 65535-256*c)
		checks(t, []byte{0, byte(c)}, 65535-c)
	}
}

// TestCheckTwo: P4.1: each number of 2 bytes, turned.
func TestCheckTwo(t *testing.T) {
	for n := range 65536 {
		checks(t, []byte{byte(n >> 8), byte(n)}, 65535^n)
	}
}

// TestCheckOdd: P4.1: an odd number of bytes is as with a 0 behind them, whatever lies there.
func TestCheckOdd(t *testing.T) {
	checks(t, []byte("\x00\x01\x02"), 65535-513)
	checks(t, []byte("\xff\xff\x01"), 65535-256)
	checks(t, []byte("\xff\xff\xff\xff\xff"), 255)
	c := chance(1)
	for n := 1; n < 400; n += 2 {
		b := append(c.bytes(n), 77)
		was := bytes.Clone(b)
		checks(t, b[:n], plainCheck(append(bytes.Clone(b[:n]), 0)))
		if got := inet.Check(append(bytes.Clone(b[:n]), 0)); got != inet.Check(b[:n]) {
			t.Errorf("%d bytes: %d", n, got)
		}
		if !bytes.Equal(b, was) {
			t.Errorf("%d bytes: written into", n)
		}
	}
}

// TestCheckAll: P4.1: bytes that are all 0, or all 255, of few bytes and of many.
func TestCheckAll(t *testing.T) {
	for _, n := range []int{1, 2, 3, 19, 20, 21, 1424, 65535, 65536, 131070, 131072, 131073, 1 << 18, 1<<20 + 1} {
		checks(t, make([]byte, n), 65535)
		want := 0
		if n%2 == 1 { // one of 65280, and else 65535, of which each is nothing more
			want = 255
		}
		checks(t, bytes.Repeat([]byte{255}, n), want)
	}
}

// TestCheckAny: P4.1: of any bytes, few and many; P2: the same again.
func TestCheckAny(t *testing.T) {
	c := chance(2)
	for n := range 3000 {
		b := c.bytes(n % 300)
		checks(t, b, plainCheck(b))
		checks(t, b, plainCheck(b))
	}
	for _, n := range []int{65535, 65536, 200001, 1 << 20} {
		b := c.bytes(n)
		checks(t, b, plainCheck(b))
	}
}
