package tail_test

import (
	"testing"

	"rutter/tail"
)

// TestBound: P22.1: a span and a loss, each alone and both: 0, within, at 2^31, and outside.
func TestBound(t *testing.T) {
	for _, x := range []struct{ span, loss, want int }{
		{0, 0, 200}, {1, 0, 202}, {0, 1, 400}, {1, 1, 402}, {10, 0, 220}, {10, 2, 620}, {20, 3, 840}, {5, 1000, 200210},
		{1 << 31, 0, 1<<32 + 200}, {0, 1 << 31, 200<<31 + 200}, {1 << 31, 1 << 31, 202<<31 + 200},
		{1<<31 - 1, 1<<31 - 1, 202<<31 - 2}, {1<<31 - 1, 0, 1<<32 + 198}, {0, 1<<31 - 1, 200 << 31},
		{-1, 0, 0}, {0, -1, 0}, {-1, -1, 0}, {-1, 5, 0}, {5, -1, 0},
		{1<<31 + 1, 0, 0}, {0, 1<<31 + 1, 0}, {1<<31 + 1, 1<<31 + 1, 0}, {1<<31 + 1, 5, 0}, {5, 1<<31 + 1, 0},
		{1 << 31, 1<<31 + 1, 0}, {1<<31 + 1, 1 << 31, 0}, {-1, 1 << 31, 0}, {1 << 31, -1, 0}, {-1, 1<<31 + 1, 0},
	} {
		for range 2 {
			if got := tail.Bound(x.span, x.loss); got != x.want {
				t.Errorf("%d, %d: %d; want %d", x.span, x.loss, got, x.want)
			}
		}
	}
}

// TestBoundOfAny: P22.1, P1: numbers at all edges.
func TestBoundOfAny(t *testing.T) {
	may := func(n int) bool { return n >= 0 && n <= 1<<31 }
	for _, span := range edges() {
		for _, loss := range edges() {
			want := 0
			if may(span) && may(loss) {
				want = span + span + 200 + 200*loss
			}
			if got := tail.Bound(span, loss); got != want {
				t.Errorf("%d, %d: %d; want %d", span, loss, got, want)
			}
		}
	}
}

// TestMostItems: the chapter's number.
func TestMostItems(t *testing.T) {
	if tail.MostItems != 65536 {
		t.Error(tail.MostItems)
	}
}
