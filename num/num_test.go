package num

import (
	"math"
	"math/big"
	"testing"
)

// edges are numbers around which a wrong comparison, or a wrap-round, shows.
var edges = []int{
	math.MinInt, math.MinInt + 1, math.MinInt / 2, -65, -64, -7, -2, -1,
	0, 1, 2, 3, 5, 7, 62, 63, 64, 65, 100,
	math.MaxInt / 2, math.MaxInt/2 + 1, math.MaxInt - 1, math.MaxInt,
}

// P1.1
func TestClamp(t *testing.T) {
	rows := []struct{ n, lo, hi, want int }{
		{7, 0, 5, 5},
		{3, 0, 5, 3},
		{1, 0, 5, 1},
		{4, 0, 5, 4},
		{-1, 0, 5, 0},
		{6, 0, 5, 5},
		{-2, 0, 5, 0},
		{0, 0, 5, 0},
		{5, 0, 5, 5},
		{4, 4, 4, 4},
		{9, 4, 4, 4},
		{-9, -5, -3, -5},
		{0, -5, -3, -3},
		// ends that are the wrong way round
		{7, 5, 0, 5},
		{3, 5, 0, 5},
		{-1, 5, 0, 5},
		{math.MaxInt, 5, 4, 5},
		{0, math.MaxInt, math.MinInt, math.MaxInt},
		// the least and the greatest int
		{math.MinInt, -3, 3, -3},
		{math.MaxInt, -3, 3, 3},
		{0, math.MinInt, math.MaxInt, 0},
		{math.MinInt, math.MinInt, math.MaxInt, math.MinInt},
		{math.MaxInt, math.MinInt, math.MaxInt, math.MaxInt},
	}
	for _, r := range rows {
		if got := Clamp(r.n, r.lo, r.hi); got != r.want {
			t.Errorf("Clamp(%d, %d, %d): %d, not %d", r.n, r.lo, r.hi, got, r.want)
		}
	}
}

// P1.1: the meaning itself, of all edges.
func TestClampOfEdges(t *testing.T) {
	for _, n := range edges {
		for _, lo := range edges {
			for _, hi := range edges {
				// The middle one of the three, while the ends are the right way round.
				want := max(lo, min(n, hi))
				if hi < lo {
					want = lo
				}
				if got := Clamp(n, lo, hi); got != want {
					t.Errorf("Clamp(%d, %d, %d): %d, not %d", n, lo, hi, got, want)
				}
			}
		}
	}
}

// P1.1
func TestMod(t *testing.T) {
	rows := []struct{ n, m, want int }{
		{-1, 5, 4},
		{7, 5, 2},
		{5, 5, 0},
		{-5, 5, 0},
		{-6, 5, 4},
		{0, 5, 0},
		{4, 5, 4},
		{9, 1, 0},
		{-9, 1, 0},
		// divisors below 1
		{5, 0, 0},
		{5, -1, 0},
		{5, -3, 0},
		{-5, -3, 0},
		{math.MinInt, -1, 0},
		{math.MinInt, 0, 0},
		{math.MaxInt, math.MinInt, 0},
		// the least and the greatest int
		{math.MinInt, 1, 0},
		{math.MinInt, math.MaxInt, math.MaxInt - 1},
		{math.MaxInt, math.MaxInt, 0},
		{math.MaxInt - 1, math.MaxInt, math.MaxInt - 1},
		{-1, math.MaxInt, math.MaxInt - 1},
	}
	for _, r := range rows {
		if got := Mod(r.n, r.m); got != r.want {
			t.Errorf("Mod(%d, %d): %d, not %d", r.n, r.m, got, r.want)
		}
	}
}

// P1.1: the meaning itself, held against numbers without bounds.
func TestModOfEdges(t *testing.T) {
	for _, n := range edges {
		for _, m := range edges {
			want := int64(0)
			if m >= 1 {
				want = new(big.Int).Mod(big.NewInt(int64(n)), big.NewInt(int64(m))).Int64()
			}
			if got := Mod(n, m); int64(got) != want {
				t.Errorf("Mod(%d, %d): %d, not %d", n, m, got, want)
			}
		}
	}
}

// P1.2
func TestBit(t *testing.T) {
	rows := []struct {
		n, at int
		want  bool
	}{
		{5, 0, true},
		{5, 1, false},
		{5, 2, true},
		{5, 3, false},
		{0, 0, false},
		{0, 63, false},
		{-1, 0, true},
		{-1, 63, true},
		{-2, 0, false},
		{-2, 1, true},
		{math.MinInt64, 63, true},
		{math.MinInt64, 62, false},
		{math.MinInt64, 0, false},
		{math.MaxInt64, 63, false},
		{math.MaxInt64, 62, true},
		{math.MaxInt64, 0, true},
		// bits outside 0 to 63
		{-1, 64, false},
		{-1, 65, false},
		{-1, 128, false},
		{-1, -1, false},
		{-1, -64, false},
		{1, -1, false},
		{1, 64, false},
		{-1, math.MaxInt, false},
		{-1, math.MinInt, false},
	}
	for _, r := range rows {
		if got := Bit(r.n, r.at); got != r.want {
			t.Errorf("Bit(%d, %d): %v, not %v", r.n, r.at, got, r.want)
		}
	}
}

// P1.2
func TestOnes(t *testing.T) {
	rows := []struct{ n, want int }{
		{0, 0},
		{1, 1},
		{2, 1},
		{255, 8},
		{256, 1},
		{1<<32 + 1, 2},
		{-1, 64},
		{-2, 63},
		{-256, 56},
		{math.MinInt64, 1},
		{math.MaxInt64, 63},
	}
	for _, r := range rows {
		if got := Ones(r.n); got != r.want {
			t.Errorf("Ones(%d): %d, not %d", r.n, got, r.want)
		}
	}
}

// P1.2: Bit and Ones tell of the same bits, and these make up the number modulo 2^64.
func TestBitsMakeTheNumber(t *testing.T) {
	for _, n := range edges {
		ones, sum := 0, uint64(0)
		for at := -70; at < 140; at++ {
			if Bit(n, at) {
				ones++
				sum += uint64(1) << at
			}
		}
		if sum != uint64(n) {
			t.Errorf("the bits of %d make %d", n, sum)
		}
		if got := Ones(n); got != ones {
			t.Errorf("Ones(%d): %d, but %d bits are 1", n, got, ones)
		}
	}
}

// P1.2
func TestDouble(t *testing.T) {
	rows := []struct{ n, times, most, want int }{
		{3, 2, 100, 12},
		{3, 9, 100, 100},
		{3, 0, 100, 3},
		{1, 8, 1000, 256},
		{0, 5, 100, 0},
		// just at the most, and just above it
		{3, 2, 12, 12},
		{3, 2, 11, 11},
		{3, 3, 12, 12},
		{3, 2, 13, 12},
		{6, 0, 6, 6},
		{6, 0, 5, 5},
		{6, 3, 5, 5},
		{5, 0, 3, 3},
		// numbers below 0
		{-4, 2, 9, 0},
		{-4, 0, 9, 0},
		{3, -1, 100, 3},
		{3, math.MinInt, 100, 3},
		{200, -1, 100, 100},
		{3, 2, -1, 0},
		{3, 0, -1, 0},
		{-3, 2, -1, 0},
		{-3, -2, -9, 0},
		{0, 0, 0, 0},
		{1, 0, 0, 0},
		// doubling that passes the most, where the sum would wrap round
		{1, 62, math.MaxInt64, 1 << 62},
		{1, 63, math.MaxInt64, math.MaxInt64},
		{1, 64, math.MaxInt64, math.MaxInt64},
		{1, 65, math.MaxInt64, math.MaxInt64},
		{3, 64, math.MaxInt64, math.MaxInt64},
		{math.MaxInt, 0, math.MaxInt, math.MaxInt},
		{math.MaxInt, 1, math.MaxInt, math.MaxInt},
		{math.MaxInt, 1, math.MaxInt - 1, math.MaxInt - 1},
		{math.MaxInt / 2, 1, math.MaxInt, math.MaxInt - 1},
		{math.MaxInt/2 + 1, 1, math.MaxInt, math.MaxInt},
		{math.MinInt, 1, math.MaxInt, 0},
		{math.MaxInt, 1, math.MinInt, 0},
		// as often as can be said, and it still ends
		{1, math.MaxInt, math.MaxInt, math.MaxInt},
		{0, math.MaxInt, math.MaxInt, 0},
		{-1, math.MaxInt, math.MaxInt, 0},
		{0, math.MaxInt, 0, 0},
	}
	for _, r := range rows {
		if got := Double(r.n, r.times, r.most); got != r.want {
			t.Errorf("Double(%d, %d, %d): %d, not %d", r.n, r.times, r.most, got, r.want)
		}
	}
}

// P1.2: the meaning itself, held against numbers without bounds.
func TestDoubleOfEdges(t *testing.T) {
	for _, n := range edges {
		for _, most := range edges {
			for times := -2; times < 70; times++ {
				want := doubled(n, times, most)
				if got := Double(n, times, most); int64(got) != want {
					t.Errorf("Double(%d, %d, %d): %d, not %d", n, times, most, got, want)
				}
			}
		}
	}
}

func doubled(n, times, most int) int64 {
	bound := big.NewInt(int64(max(most, 0)))
	sum := new(big.Int).Lsh(big.NewInt(int64(max(n, 0))), uint(max(times, 0)))
	if sum.Cmp(bound) > 0 {
		return bound.Int64()
	}
	return sum.Int64()
}
