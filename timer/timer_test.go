package timer

import (
	"math"
	"math/big"
	"slices"
	"testing"
)

// edges are numbers around which a wrong comparison, or a wrap-round, shows.
var edges = []int{
	math.MinInt, math.MinInt + 1, math.MinInt32 - 1, math.MinInt32, -65, -9, -8, -2, -1,
	0, 1, 2, 3, 4, 7, 8, 9, 10, 19, 20, 21, 22, 31, 32, 63, 64, 65, 66,
	1<<19 - 1, 1 << 19, 1<<19 + 1, 1<<20 - 1, 1 << 20, 1<<20 + 1, 1 << 21,
	math.MaxInt32, math.MaxInt32 + 1, math.MaxInt / 2, math.MaxInt/2 + 1, math.MaxInt - 1, math.MaxInt,
}

// checkTick tells where Tick isn't what is wanted.
func checkTick(t *testing.T, x Timer, wait, tries int, want Timer, do int) {
	t.Helper()
	if got, done := Tick(x, wait, tries); got != want || done != do {
		t.Errorf("Tick(%+v, %d, %d) = %+v, %d, not %+v, %d", x, wait, tries, got, done, want, do)
	}
}

// P7.1
func TestStart(t *testing.T) {
	rows := []struct{ wait, left int }{
		// below 1
		{math.MinInt, 1}, {math.MinInt + 1, 1}, {math.MinInt32, 1}, {-64, 1}, {-2, 1}, {-1, 1}, {0, 1},
		{1, 1}, {2, 2}, {3, 3}, {17, 17}, {63, 63}, {64, 64},
		// beyond what a world waits, and beyond what doubling makes
		{65, 65}, {1000, 1000}, {1<<20 - 1, 1<<20 - 1}, {1 << 20, 1 << 20}, {1<<20 + 1, 1<<20 + 1},
		{math.MaxInt - 1, math.MaxInt - 1}, {math.MaxInt, math.MaxInt},
	}
	for _, r := range rows {
		if got := Start(r.wait); got != (Timer{Left: r.left}) {
			t.Errorf("Start(%d) = %+v", r.wait, got)
		}
	}
}

// P7.1: one that is Over stays as it is, whatever else it holds.
func TestTickOfOver(t *testing.T) {
	for _, left := range edges {
		for _, had := range edges {
			x := Timer{Left: left, Tries: had, Over: true}
			for _, n := range edges {
				checkTick(t, x, n, had, x, 0)
				checkTick(t, x, 2, n, x, 0)
			}
		}
	}
}

// P7.1: with Left above 1 it is one less, whatever wait and tries are.
func TestTickOfMoreLeft(t *testing.T) {
	for _, left := range edges {
		if left <= 1 {
			continue
		}
		for _, had := range edges {
			x := Timer{Left: left, Tries: had}
			for _, n := range edges {
				checkTick(t, x, n, had, Timer{Left: left - 1, Tries: had}, 0)
				checkTick(t, x, 2, n, Timer{Left: left - 1, Tries: had}, 0)
			}
		}
	}
}

// ended are numbers of ticks left of which none is left behind a tick.
var ended = []int{1, 0, -1, -2, -64, math.MinInt32, math.MinInt + 1, math.MinInt}

// P7.1: with no tick left, and Tries below tries, it is tried again.
func TestTickToTryAgain(t *testing.T) {
	rows := []struct{ had, wait, tries, left int }{
		{0, 2, 1, 4},
		{0, 3, 2, 6},
		{1, 3, 2, 12},
		{2, 3, 3, 24},
		{0, 1, 8, 2},
		{7, 1, 8, 256},
		{7, 64, 8, 16384},
		{0, 64, math.MaxInt, 128},
		// waits below 1
		{0, 0, 1, 1},
		{7, 0, 8, 1},
		{0, -1, 1, 1},
		{3, -64, 8, 1},
		{0, math.MinInt, 1, 1},
		{64, math.MinInt, 65, 1},
		{math.MaxInt - 1, 0, math.MaxInt, 1},
		{math.MaxInt - 1, -1, math.MaxInt, 1},
		// just at 2^20, and just below and above it
		{0, 1<<19 - 1, 1, 1<<20 - 2},
		{0, 1 << 19, 1, 1 << 20},
		{0, 1<<19 + 1, 1, 1 << 20},
		{18, 1, 20, 1 << 19},
		{19, 1, 20, 1 << 20},
		{20, 1, 21, 1 << 20},
		{18, 2, 20, 1 << 20},
		{18, 3, 20, 1 << 20},
		{17, 3, 20, 3 << 18},
		// great ones
		{0, 1 << 20, 1, 1 << 20},
		{0, 1<<20 + 1, 1, 1 << 20},
		{0, math.MaxInt, 1, 1 << 20},
		{0, math.MaxInt/2 + 1, 1, 1 << 20},
		{62, 1, 63, 1 << 20},
		{63, 1, 64, 1 << 20},
		{64, 1, 65, 1 << 20},
		{math.MaxInt - 1, 1, math.MaxInt, 1 << 20},
		{math.MaxInt - 1, math.MaxInt, math.MaxInt, 1 << 20},
		// Tries and tries below 0: doubled no time till Tries is above 0
		{-1, 5, 0, 5},
		{-1, 5, 1, 5},
		{-2, 5, -1, 5},
		{-9, 5, 8, 5},
		{-2, 0, -1, 1},
		{-2, -5, -1, 1},
		{-2, 1 << 20, -1, 1 << 20},
		{-2, 1<<20 + 1, -1, 1 << 20},
		{-2, math.MaxInt, -1, 1 << 20},
		{math.MinInt, 5, math.MinInt + 1, 5},
		{math.MinInt, 5, math.MaxInt, 5},
	}
	for _, r := range rows {
		for _, left := range ended {
			x := Timer{Left: left, Tries: r.had}
			checkTick(t, x, r.wait, r.tries, Timer{Left: r.left, Tries: r.had + 1}, 1)
		}
	}
}

// P7.1: with no tick left, and Tries just tries, or above it, it is Over, with its Tries, whatever wait is.
func TestTickToTryNever(t *testing.T) {
	rows := []struct{ had, tries int }{
		{0, 0}, {1, 1}, {8, 8}, {1, 0}, {2, 1}, {9, 8}, {8, 0},
		{0, -1}, {-1, -1}, {-1, -2}, {-7, -8}, {8, -8}, {3, math.MinInt},
		{math.MinInt, math.MinInt}, {math.MinInt + 1, math.MinInt},
		{math.MaxInt, math.MaxInt}, {math.MaxInt, math.MaxInt - 1}, {math.MaxInt, math.MinInt},
	}
	for _, r := range rows {
		for _, left := range ended {
			for _, wait := range edges {
				x := Timer{Left: left, Tries: r.had}
				checkTick(t, x, wait, r.tries, Timer{Tries: r.had, Over: true}, 2)
			}
		}
	}
}

// ticked is P7.1's meaning of a tick of one that isn't Over, in numbers without bounds.
func ticked(x Timer, wait, tries int) (Timer, int) {
	left := new(big.Int).Sub(big.NewInt(int64(x.Left)), big.NewInt(1))
	if left.Sign() > 0 {
		return Timer{Left: int(left.Int64()), Tries: x.Tries}, 0
	}
	if x.Tries >= tries {
		return Timer{Tries: x.Tries, Over: true}, 2
	}
	// Doubled 21 times, all but 0 is above 2^20.
	times := uint(max(0, min(x.Tries+1, 21)))
	long := new(big.Int).Lsh(big.NewInt(int64(max(wait, 0))), times)
	if long.Cmp(big.NewInt(1<<20)) > 0 {
		long.SetInt64(1 << 20)
	}
	return Timer{Left: max(1, int(long.Int64())), Tries: x.Tries + 1}, 1
}

// P7.1: the meaning itself, of all edges.
func TestTickOfEdges(t *testing.T) {
	for _, left := range []int{math.MinInt, -1, 0, 1, 2, 3, 1 << 20, math.MaxInt} {
		for _, had := range edges {
			for _, wait := range edges {
				for _, tries := range edges {
					x := Timer{Left: left, Tries: had}
					want, do := ticked(x, wait, tries)
					checkTick(t, x, wait, tries, want, do)
				}
			}
		}
	}
}

// P7.1: Left is 1 at least and 2^20 at most behind each try, however long it goes on.
func TestTickStaysInBounds(t *testing.T) {
	for _, wait := range edges {
		x, long := Timer{Left: 1}, 0
		for try := 1; try <= 100; try++ {
			got, do := Tick(Timer{Left: 1, Tries: x.Tries}, wait, 100)
			if do != 1 || got.Tries != try || got.Over || got.Left < max(long, 1) || got.Left > 1<<20 {
				t.Fatalf("wait %d: try %d is %+v, %d", wait, try, got, do)
			}
			x, long = got, got.Left
		}
		checkTick(t, Timer{Left: 1, Tries: x.Tries}, wait, 100, Timer{Tries: 100, Over: true}, 2)
	}
}

// ticks tells what is to be done with each of so many ticks of a first try, and the timer behind each.
func ticks(wait, tries, count int) ([]int, []Timer) {
	var done []int
	var timers []Timer
	x := Start(wait)
	for range count {
		var do int
		x, do = Tick(x, wait, tries)
		done, timers = append(done, do), append(timers, x)
	}
	return done, timers
}

// P7.1, P7.2: the chapter's example.
func TestExample(t *testing.T) {
	done, timers := ticks(2, 1, 8)
	if !slices.Equal(done, []int{0, 1, 0, 0, 0, 2, 0, 0}) {
		t.Errorf("done: %v", done)
	}
	over := Timer{Tries: 1, Over: true}
	want := []Timer{
		{Left: 1}, {Left: 4, Tries: 1}, {Left: 3, Tries: 1}, {Left: 2, Tries: 1}, {Left: 1, Tries: 1}, over, over, over,
	}
	if !slices.Equal(timers, want) {
		t.Errorf("timers: %+v", timers)
	}
	if got := Total(2, 1); got != 6 {
		t.Errorf("Total(2, 1) = %d", got)
	}
}

// total is P7.2's meaning: how long all tries take, one behind the other.
func total(wait, tries int) int {
	sum, long := 0, wait
	for range tries + 1 {
		sum += long
		long *= 2
	}
	return sum
}

// P7.2
func TestTotal(t *testing.T) {
	rows := []struct{ wait, tries, want int }{
		{1, 0, 1}, {1, 1, 3}, {1, 8, 511}, {2, 0, 2}, {2, 1, 6}, {3, 2, 21}, {64, 0, 64}, {64, 8, 32704},
		// below and above
		{0, 0, 1}, {-1, 1, 3}, {math.MinInt, 8, 511}, {65, 0, 64}, {65, 8, 32704}, {math.MaxInt, 1, 192},
		{5, -1, 5}, {5, math.MinInt, 5}, {5, 9, 2555}, {5, 63, 2555}, {5, 64, 2555}, {5, math.MaxInt, 2555},
		{0, -1, 1}, {99, 99, 32704}, {math.MinInt, math.MinInt, 1}, {math.MaxInt, math.MaxInt, 32704},
		{math.MinInt, math.MaxInt, 511}, {math.MaxInt, math.MinInt, 64},
	}
	for _, r := range rows {
		if got := Total(r.wait, r.tries); got != r.want {
			t.Errorf("Total(%d, %d) = %d, not %d", r.wait, r.tries, got, r.want)
		}
	}
}

// P7.2: all waits and tries that there are, and those below and above.
func TestTotalOfAll(t *testing.T) {
	var waits, numbers []int
	for n := -3; n <= 70; n++ {
		waits = append(waits, n)
	}
	for n := -3; n <= 12; n++ {
		numbers = append(numbers, n)
	}
	for _, wait := range append(waits, edges...) {
		for _, tries := range append(numbers, edges...) {
			want := total(max(1, min(wait, 64)), max(0, min(tries, 8)))
			if got := Total(wait, tries); got != want {
				t.Errorf("Total(%d, %d) = %d, not %d", wait, tries, got, want)
			}
		}
	}
}

// P7.2: of all waits and tries, 2 comes with just the tick that Total tells, ahead of it 1 tries times, and 0 else.
func TestTotalIsWhatTicksTake(t *testing.T) {
	for wait := 1; wait <= 64; wait++ {
		for tries := 0; tries <= 8; tries++ {
			last := Total(wait, tries)
			done, timers := ticks(wait, tries, last+20)
			want := make([]int, last+20)
			for again, at := 0, wait; again < tries; again++ {
				want[at-1] = 1
				at += wait << (again + 1)
			}
			want[last-1] = 2
			if !slices.Equal(done, want) {
				t.Fatalf("wait %d, tries %d: Total tells %d; done: %v", wait, tries, last, done)
			}
			for at, x := range timers {
				if x.Over != (at >= last-1) {
					t.Fatalf("wait %d, tries %d: behind tick %d: %+v", wait, tries, at+1, x)
				}
			}
			if x := timers[len(timers)-1]; x != (Timer{Tries: tries, Over: true}) {
				t.Fatalf("wait %d, tries %d: at last %+v", wait, tries, x)
			}
		}
	}
}

// P7.2: behind 2, it is always 0, whatever wait and tries are then.
func TestNothingBehindTheEnd(t *testing.T) {
	x, do := Tick(Timer{Left: 1, Tries: 2}, 3, 2)
	if do != 2 {
		t.Fatalf("done: %d", do)
	}
	for _, wait := range edges {
		for _, tries := range edges {
			checkTick(t, x, wait, tries, Timer{Tries: 2, Over: true}, 0)
		}
	}
}
