package journal_test

import (
	"hash/crc32"
	"strings"
	"testing"

	"rutter/journal"
)

// plainSum is the sum, by the library.
func plainSum(s string) int { return int(crc32.ChecksumIEEE([]byte(s))) }

// bitSum is the sum, told anew by texts of 32 bits, the highest first, just as the chapter's words go.
func bitSum(s string) int {
	sum := strings.Repeat("1", 32)
	for _, c := range []byte(s) {
		sum = without(sum, bits(int(c)))
		for range 8 {
			low := sum[31]
			sum = "0" + sum[:31]
			if low == '1' {
				sum = without(sum, bits(0xEDB88320))
			}
		}
	}
	n := 0
	for _, c := range without(sum, strings.Repeat("1", 32)) {
		n = 2*n + int(c-'0')
	}
	return n
}

// bits are a number's, as a text of 32.
func bits(n int) string {
	b := make([]byte, 32)
	for i := range b {
		b[i] = byte('0' + n>>(31-i)&1)
	}
	return string(b)
}

// without adds without carry: a bit is set where two are not the same.
func without(a, b string) string {
	c := []byte(a)
	for i := range c {
		c[i] = '0'
		if a[i] != b[i] {
			c[i] = '1'
		}
	}
	return string(c)
}

// sums checks bytes' sum.
func sums(t *testing.T, s string, want int) {
	t.Helper()
	for range 2 {
		if n := journal.Sum([]byte(s)); n != want {
			t.Errorf("Sum of %.40q, %d bytes: %#x; want %#x", s, len(s), n, want)
		}
	}
}

// rising are n bytes, each one more than that ahead.
func rising(n int) string {
	b := make([]byte, n)
	for i := range b {
		b[i] = byte(i)
	}
	return string(b)
}

// TestSum: P8.1: sums that are known from elsewhere.
func TestSum(t *testing.T) {
	for s, want := range map[string]int{
		"":          0,
		"a":         0xE8B7BE43,
		"ab":        0x9E83486D,
		"abc":       0x352441C2,
		"123456789": 0xCBF43926,
		"The quick brown fox jumps over the lazy dog": 0x414FA339,
		strings.Repeat("\x00", 32):                    0x190A55AD,
		strings.Repeat("\xff", 32):                    0xFF6CAB0B,
		rising(32):                                    0x91267E8A,
		"\xff\xff\xff\xff":                            0xFFFFFFFF,
		sumless:                                       0,
	} {
		sums(t, s, want)
	}
	if n := journal.Sum(nil); n != 0 {
		t.Errorf("nil: %#x", n)
	}
}

// TestSumEachByte: P8.1: of one byte of each value, alone, and ahead of others and behind them.
func TestSumEachByte(t *testing.T) {
	for i := range 256 {
		s := string([]byte{byte(i)})
		sums(t, s, bitSum(s))
		sums(t, s, plainSum(s))
		sums(t, s+"abc", bitSum(s+"abc"))
		sums(t, "abc"+s, bitSum("abc"+s))
		sums(t, s+s, plainSum(s+s))
	}
}

// TestSumOrder: P8.1: the same bytes in another order have another sum.
func TestSumOrder(t *testing.T) {
	seen := map[int]string{}
	for _, s := range []string{"abcd", "abdc", "acbd", "acdb", "adbc", "adcb", "bacd", "badc", "bcad", "bcda", "bdac", "bdca", "cabd", "cadb", "cbad", "cbda", "cdab", "cdba", "dabc", "dacb", "dbac", "dbca", "dcab", "dcba"} {
		n := journal.Sum([]byte(s))
		if n != bitSum(s) || seen[n] != "" {
			t.Errorf("%s: %#x; want %#x; %q has it", s, n, bitSum(s), seen[n])
		}
		seen[n] = s
	}
}

// TestSumNoughts: P8.1: bytes of 0 count, ahead and behind.
func TestSumNoughts(t *testing.T) {
	for _, s := range []string{"", "a", "abc"} {
		for n := range 10 {
			noughts := strings.Repeat("\x00", n)
			sums(t, noughts+s, bitSum(noughts+s))
			sums(t, s+noughts, bitSum(s+noughts))
		}
	}
	if journal.Sum([]byte("\x00")) == journal.Sum([]byte("\x00\x00")) || journal.Sum([]byte("a")) == journal.Sum([]byte("a\x00")) {
		t.Error("a byte of 0 doesn't count")
	}
}

// TestSumLengths: P8.1: of each length of bytes, and of many.
func TestSumLengths(t *testing.T) {
	s := rising(600)
	for n := range len(s) + 1 {
		sums(t, s[:n], plainSum(s[:n]))
		sums(t, s[n:], plainSum(s[n:]))
	}
	for _, n := range []int{65535, 65536, 65537, 1<<20 + 1} {
		s := strings.Repeat("rutter", n)[:n]
		sums(t, s, plainSum(s))
	}
}

// TestSumAny: P8.1: of any bytes, a number of 32 bits.
func TestSumAny(t *testing.T) {
	c := chance(3)
	for range 3000 {
		s := string(c.bytes(c.below(40)))
		sums(t, s, bitSum(s))
		if n := journal.Sum([]byte(s)); n < 0 || n >= 1<<32 {
			t.Errorf("%q: %d", s, n)
		}
	}
}

// TestSumKeepsNothing: what is handed to Sum is neither kept nor written into, and what lies behind it is not read.
func TestSumKeepsNothing(t *testing.T) {
	for _, s := range []string{"", "a", "abc"} {
		room := []byte(s + "------")
		want := plainSum(s)
		if n := journal.Sum(room[:len(s)]); n != want || string(room) != s+"------" {
			t.Errorf("%q: %#x, %q; want %#x", s, n, room, want)
		}
		spoil(room)
		sums(t, s, want)
	}
}
