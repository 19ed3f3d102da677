package cache

import (
	"math"
	"math/rand"
	"reflect"
	"slices"
	"testing"

	"jeton/api"
	"jeton/bundle"
	"jeton/perm"
)

// noBlocks are numbers below 0: none of them is a block.
var noBlocks = []int{math.MinInt, math.MinInt + 1, math.MinInt32 - 1, -65, -64, -17, -16, -3, -2, -1}

// some are tokens without the owner's and the value.
func some(count int) api.Bundle { return api.Bundle{Count: count} }

// valued are tokens with a value.
func valued(count int, data int64) api.Bundle {
	return api.Bundle{Count: count, Has: true, Data: data}
}

// owned are tokens with the owner's, and a value.
func owned(count int, data int64) api.Bundle {
	return api.Bundle{Count: count, Owner: true, Has: true, Data: data}
}

func line(block int, b api.Bundle) api.Line { return api.Line{Block: block, Tokens: b} }

// absorb has tokens come for which nobody must go.
func absorb(t *testing.T, c *Cache, block int, b api.Bundle) {
	t.Helper()
	if gone, went := c.Absorb(block, b, -1); went || gone != (api.Line{}) {
		t.Fatalf("Absorb(%d, %v, -1) = %v, %t, with %v", block, b, gone, went, c.All())
	}
}

// filled has lines, used in that order.
func filled(t *testing.T, sets, ways int, all ...api.Line) *Cache {
	t.Helper()
	c := New(sets, ways)
	for _, l := range all {
		absorb(t, c, l.Block, l.Tokens)
	}
	return c
}

// checkAll tells where All, or Get, isn't what is wanted.
func checkAll(t *testing.T, c *Cache, want ...api.Line) {
	t.Helper()
	if got := c.All(); !slices.Equal(got, want) {
		t.Fatalf("All() = %v, not %v", got, want)
	}
	for _, l := range want {
		if got := c.Get(l.Block); got != l.Tokens {
			t.Fatalf("Get(%d) = %v, not %v", l.Block, got, l.Tokens)
		}
	}
}

// checkGoes tells where not just that line goes for the tokens that come.
func checkGoes(t *testing.T, c *Cache, block int, b api.Bundle, pinned int, want api.Line) {
	t.Helper()
	if gone, went := c.Absorb(block, b, pinned); gone != want || !went {
		t.Fatalf("Absorb(%d, %v, %d) = %v, %t, not %v, true", block, b, pinned, gone, went, want)
	}
}

// checkOrder tells where the lines of a cache with one full set don't go in that order; c stays as it is.
func checkOrder(t *testing.T, c *Cache, want ...int) {
	t.Helper()
	c = c.Copy()
	for i, block := range want {
		if gone, went := c.Absorb(1000+i, some(1), -1); gone.Block != block || !went {
			t.Fatalf("%d goes (%t), not %d, with %v", gone.Block, went, block, c.All())
		}
	}
}

// P9.2: the chapter's example.
func TestExample(t *testing.T) {
	c := filled(t, 1, 1, line(3, some(2)))
	checkGoes(t, c, 5, some(1), -1, line(3, some(2)))
	checkAll(t, c, line(5, some(1)))

	c = filled(t, 1, 1, line(3, some(2)))
	checkGoes(t, c, 5, some(1), 3, line(5, some(1)))
	checkAll(t, c, line(3, some(2)))
}

// P9.1: the face is what the chapter lists: nothing that the lines can do by themselves is done from outside.
func TestFace(t *testing.T) {
	face := reflect.TypeOf(New(1, 1))
	var names []string
	for i := range face.NumMethod() {
		names = append(names, face.Method(i).Name)
	}
	if want := []string{"Absorb", "All", "Copy", "Do", "Get", "Take"}; !slices.Equal(names, want) {
		t.Errorf("a Cache has %v, not %v", names, want)
	}
}

// counts are what New is handed, and what counts for it, if just most may be.
func counts(most int) map[int]int {
	return map[int]int{
		math.MinInt: 1, -65: 1, -1: 1, 0: 1,
		1: 1, 2: 2, 3: 3, 7: 7, most - 1: most - 1, most: most,
		most + 1: most, 2 * most: most, math.MaxInt32 + 1: most, math.MaxInt: most,
	}
}

// P9.1: a new one has no lines, and room for as many as the sets and ways within 1 to 64 and 1 to 16 are.
func TestNew(t *testing.T) {
	for sets, haveSets := range counts(64) {
		for ways, haveWays := range counts(16) {
			c := New(sets, ways)
			checkAll(t, c)
			var want []api.Line
			for block := range haveSets * haveWays {
				if got := c.Get(block); got != (api.Bundle{}) {
					t.Fatalf("New(%d, %d): Get(%d) = %v", sets, ways, block, got)
				}
				absorb(t, c, block, some(block+1))
				want = append(want, line(block, some(block+1)))
			}
			checkAll(t, c, want...)
			// Each set is full now, and its first line goes.
			for block := range haveSets {
				checkGoes(t, c, haveSets*haveWays+block, some(1), -1, line(block, some(block+1)))
			}
		}
	}
}

// P9.1: Get tells a line's tokens as they came, and none of what has no line; it is no use of the line.
func TestGet(t *testing.T) {
	for _, b := range []api.Bundle{
		some(1), some(65536), some(math.MaxInt), valued(1, 0), valued(3, -7), valued(2, math.MinInt64),
		owned(1, 0), owned(4, math.MaxInt64), owned(math.MaxInt, 9),
		// These may not be a block's, but they come to no harm.
		{Count: 1, Owner: true}, {Count: 2, Data: 5}, {Count: 3, Owner: true, Data: -5},
	} {
		for _, block := range []int{0, 1, 63, 64, 1 << 40, math.MaxInt - 1, math.MaxInt} {
			c := filled(t, 3, 2, line(block, b))
			checkAll(t, c, line(block, b))
			for _, other := range append([]int{block - 1, block ^ 1, block - 3, 2, 77}, noBlocks...) {
				if got := c.Get(other); got != (api.Bundle{}) {
					t.Errorf("Get(%d) = %v, with a line of %d", other, got, block)
				}
			}
			checkAll(t, c, line(block, b))
		}
	}
	c := filled(t, 1, 2, line(4, some(1)), line(7, some(1)))
	c.Get(4)
	c.All()
	checkOrder(t, c, 4, 7)
}

// P9.1: All is by rising blocks, whatever the order of the calls and however many sets there are.
func TestAllIsRising(t *testing.T) {
	blocks := []int{0, 1, 5, 6, 64, 130, 1 << 40, math.MaxInt - 1, math.MaxInt}
	random := rand.New(rand.NewSource(9))
	for _, sets := range []int{1, 2, 3, 5, 63, 64} {
		for range 50 {
			c := New(sets, 16)
			for _, at := range random.Perm(len(blocks)) {
				absorb(t, c, blocks[at], valued(at+2, int64(at)))
			}
			for _, at := range random.Perm(len(blocks))[:4] {
				c.Do(api.Op{Block: blocks[at]}, 99)
			}
			var want []api.Line
			gone := random.Perm(len(blocks))[:3]
			for at, block := range blocks {
				if slices.Contains(gone, at) {
					c.Take(block, math.MaxInt, true, true)
				} else {
					want = append(want, line(block, valued(at+2, int64(at))))
				}
			}
			checkAll(t, c, want...)
		}
	}
}

// P9.1: what All gave is the caller's own, its spare room too, and no later call is to be seen in it.
func TestAllIsTheCallers(t *testing.T) {
	c := filled(t, 2, 3, line(6, some(1)), line(3, valued(2, 7)), line(4, owned(3, 8)))
	want := []api.Line{line(3, valued(2, 7)), line(4, owned(3, 8)), line(6, some(1))}
	first, second := c.All(), c.All()
	for i := range first {
		first[i] = line(90+i, owned(50, 50))
	}
	for range 20 {
		first = append(first, line(99, some(99)))
	}
	checkAll(t, c, want...)
	c.Take(4, 1, true, true)
	c.Take(6, 1, true, true)
	absorb(t, c, 3, valued(1, 9))
	absorb(t, c, 1, some(5))
	if !slices.Equal(second, want) {
		t.Errorf("All gave %v", second)
	}
	checkAll(t, c, line(1, some(5)), line(3, valued(3, 9)), line(4, valued(2, 8)))
}

// P9.2: of none nothing comes: no line, no use, nothing that goes, whatever else is with it.
func TestAbsorbOfNone(t *testing.T) {
	full := []api.Line{line(4, valued(1, 5)), line(7, owned(2, 6))}
	for _, count := range []int{0, -1, -2, -65536, math.MinInt32 - 1, math.MinInt + 1, math.MinInt} {
		for _, b := range []api.Bundle{some(count), valued(count, 9), owned(count, 9), {Count: count, Owner: true}, {Count: count, Data: 9}} {
			c, one, empty := filled(t, 1, 2, full...), filled(t, 1, 1, line(3, some(1))), New(1, 1)
			for _, block := range append([]int{3, 4, 7, 9, math.MaxInt}, noBlocks...) {
				for _, pinned := range []int{-1, 3, 4, 7, 9, math.MinInt} {
					for _, x := range []*Cache{c, one, empty} {
						if gone, went := x.Absorb(block, b, pinned); went || gone != (api.Line{}) {
							t.Fatalf("Absorb(%d, %v, %d) = %v, %t", block, b, pinned, gone, went)
						}
					}
				}
			}
			checkAll(t, c, full...)
			checkOrder(t, c, 4, 7)
			checkAll(t, one, line(3, some(1)))
			checkAll(t, empty)
		}
	}
}

// P9.2: what comes to a line is joined with what it has; nobody goes, and the line was used.
func TestAbsorbToALine(t *testing.T) {
	for _, row := range []struct{ has, came, want api.Bundle }{
		{some(1), some(1), some(2)},
		{some(2), valued(3, 7), valued(5, 7)},
		{valued(2, 7), some(3), valued(5, 7)},
		{valued(2, 7), valued(1, 8), valued(3, 8)},
		{valued(2, 7), valued(1, 0), valued(3, 0)},
		{valued(1, 7), owned(2, 9), owned(3, 9)},
		{owned(1, 7), some(4), owned(5, 7)},
		{owned(1, 7), valued(4, -1), owned(5, -1)},
		{some(1), owned(1, math.MinInt64), owned(2, math.MinInt64)},
		{some(1), some(math.MaxInt - 1), some(math.MaxInt)},
		{api.Bundle{Count: 1, Owner: true}, some(1), api.Bundle{Count: 2, Owner: true}},
	} {
		if got := bundle.Join(row.has, row.came); got != row.want {
			t.Fatalf("Join(%v, %v) = %v", row.has, row.came, got)
		}
		for _, pinned := range []int{-1, 4, 7, 9, math.MinInt, math.MaxInt} {
			c := filled(t, 1, 2, line(4, row.has), line(7, some(1)))
			checkOrder(t, c, 4, 7)
			if gone, went := c.Absorb(4, row.came, pinned); went || gone != (api.Line{}) {
				t.Fatalf("Absorb(4, %v, %d) = %v, %t", row.came, pinned, gone, went)
			}
			checkAll(t, c, line(4, row.want), line(7, some(1)))
			checkOrder(t, c, 7, 4)
		}
	}
	// The only line, pinned by itself.
	c := filled(t, 1, 1, line(4, some(1)))
	if gone, went := c.Absorb(4, some(2), 4); went || gone != (api.Line{}) {
		t.Errorf("Absorb to a pinned line = %v, %t", gone, went)
	}
	checkAll(t, c, line(4, some(3)))
}

// P9.2: while its set has room, a block gets a line and nobody goes, be another set full or not, whoever is pinned.
func TestAbsorbToASetWithRoom(t *testing.T) {
	for _, pinned := range []int{-1, 0, 1, 2, 3, 5, math.MinInt, math.MaxInt} {
		c := filled(t, 2, 2, line(0, some(1)), line(2, some(2)), line(1, valued(1, 4)))
		if gone, went := c.Absorb(5, owned(3, 6), pinned); went || gone != (api.Line{}) {
			t.Fatalf("Absorb(5, .., %d) = %v, %t", pinned, gone, went)
		}
		checkAll(t, c, line(0, some(1)), line(1, valued(1, 4)), line(2, some(2)), line(5, owned(3, 6)))
		// The new line was used last in its set.
		checkGoes(t, c, 7, some(1), -1, line(1, valued(1, 4)))
		checkGoes(t, c, 9, some(1), -1, line(5, owned(3, 6)))
	}
}

// P9.2: of a full set the line used longest ago goes, with its own tokens and block, but never the pinned one.
func TestAbsorbToAFullSet(t *testing.T) {
	// Set 0 has 6, 9 and 3, used in that order; set 1 has 1, and set 2 has 2.
	has := []api.Line{line(6, owned(6, 60)), line(9, valued(9, 90)), line(1, some(1)), line(3, some(3)), line(2, owned(2, 20))}
	for _, row := range []struct{ pinned, goes int }{
		{-1, 0}, {6, 1}, {9, 0}, {3, 0},
		{1, 0}, {2, 0}, {4, 0}, // of other sets, with and without a line
		{0, 0}, {15, 0}, {12, 0}, {math.MaxInt, 0}, // without a line; 12 is the one that comes
		{-3, 0}, {-6, 0}, {math.MinInt, 0}, // none
	} {
		c := filled(t, 3, 3, has...)
		checkGoes(t, c, 12, valued(12, 120), row.pinned, has[row.goes])
		want := []api.Line{line(12, valued(12, 120))}
		for i, l := range has {
			if i != row.goes {
				want = append(want, l)
			}
		}
		slices.SortFunc(want, func(a, b api.Line) int { return a.Block - b.Block })
		checkAll(t, c, want...)
		if got := c.Get(has[row.goes].Block); got != (api.Bundle{}) {
			t.Errorf("what went is still there: %v", got)
		}
	}
}

// P9.2: of each number of ways, all lines go in the order of their use, and the new ones behind them.
func TestAbsorbInTurn(t *testing.T) {
	for ways := 1; ways <= 16; ways++ {
		c := New(1, ways)
		for block := range 40 {
			b := valued(block+1, int64(-block))
			if block < ways {
				absorb(t, c, block, b)
				continue
			}
			first := block - ways
			checkGoes(t, c, block, b, -1, line(first, valued(first+1, int64(-first))))
		}
		if len(c.All()) != ways {
			t.Errorf("%d ways: %v", ways, c.All())
		}
	}
}

// P9.2: with the only line pinned nobody may go: what came goes, and nothing is changed.
func TestAbsorbWithTheOnlyLinePinned(t *testing.T) {
	for _, b := range []api.Bundle{some(1), valued(2, 7), owned(65536, -7), {Count: 1, Owner: true}, {Count: 1, Data: 3}} {
		c := filled(t, 2, 1, line(4, valued(3, 5)), line(1, some(1)))
		for range 3 {
			for _, block := range []int{6, 0, math.MaxInt - 1} {
				checkGoes(t, c, block, b, 4, line(block, b))
				checkAll(t, c, line(1, some(1)), line(4, valued(3, 5)))
			}
		}
		// Of the other set its own line goes, since that isn't the pinned one.
		checkGoes(t, c, 3, b, 4, line(1, some(1)))
		checkAll(t, c, line(3, b), line(4, valued(3, 5)))
		// What isn't pinned any more goes.
		checkGoes(t, c, 6, b, -1, line(4, valued(3, 5)))
	}
}

// P9.2: what comes for no block goes, and nothing is changed, be there room or not, whoever is pinned.
func TestAbsorbOfNoBlock(t *testing.T) {
	full := []api.Line{line(4, valued(1, 5)), line(7, owned(2, 6))}
	for _, block := range noBlocks {
		for _, pinned := range []int{-1, block, 4, 7, 9, math.MinInt, math.MaxInt} {
			c, empty := filled(t, 1, 2, full...), New(64, 16)
			for _, b := range []api.Bundle{some(1), valued(2, 7), owned(3, 8), {Count: 4, Owner: true, Data: 1}} {
				checkGoes(t, c, block, b, pinned, line(block, b))
				checkGoes(t, empty, block, b, pinned, line(block, b))
				if c.Get(block) != (api.Bundle{}) || c.Take(block, 9, true, true) != (api.Bundle{}) {
					t.Fatalf("%d has tokens", block)
				}
			}
			checkAll(t, c, full...)
			checkOrder(t, c, 4, 7)
			checkAll(t, empty)
		}
	}
}

// P9.2: what Split gives away goes, and the rest stays.
func TestTake(t *testing.T) {
	none := api.Bundle{}
	for _, row := range []struct {
		has         api.Bundle
		count       int
		owner, data bool
		given, rest api.Bundle
	}{
		// None.
		{some(3), 0, true, true, none, some(3)},
		{owned(3, 7), 0, true, true, none, owned(3, 7)},
		{owned(3, 7), -1, true, true, none, owned(3, 7)},
		{valued(3, 7), math.MinInt, true, true, none, valued(3, 7)},
		// The only one is the owner's, and stays.
		{owned(1, 7), 1, false, true, none, owned(1, 7)},
		{owned(1, 7), math.MaxInt, false, false, none, owned(1, 7)},
		// Some.
		{some(3), 1, true, true, some(1), some(2)},
		{valued(3, 7), 2, false, false, some(2), valued(1, 7)},
		{valued(3, 7), 2, true, true, valued(2, 7), valued(1, 7)},
		{owned(3, 7), 1, false, false, some(1), owned(2, 7)},
		{owned(3, 7), 1, false, true, valued(1, 7), owned(2, 7)},
		{owned(3, 7), 1, true, false, owned(1, 7), valued(2, 7)},
		{owned(3, 7), 2, true, true, owned(2, 7), valued(1, 7)},
		{owned(3, 7), 3, false, false, some(2), owned(1, 7)},
		{owned(3, 7), 99, false, true, valued(2, 7), owned(1, 7)},
		// All, and more than there are.
		{some(1), 1, false, false, some(1), none},
		{some(3), 3, true, true, some(3), none},
		{valued(3, 7), 3, false, false, some(3), none},
		{valued(3, 7), 4, false, true, valued(3, 7), none},
		{owned(3, 7), 3, true, false, owned(3, 7), none},
		{owned(3, 7), math.MaxInt, true, true, owned(3, 7), none},
		{owned(math.MaxInt, 0), math.MaxInt, true, true, owned(math.MaxInt, 0), none},
	} {
		given, rest := bundle.Split(row.has, row.count, row.owner, row.data)
		if given != row.given || rest != row.rest {
			t.Fatalf("Split(%v, %d, %t, %t) = %v, %v", row.has, row.count, row.owner, row.data, given, rest)
		}
		c := filled(t, 1, 2, line(4, row.has), line(7, some(5)))
		if got := c.Take(4, row.count, row.owner, row.data); got != row.given {
			t.Errorf("Take(4, %d, %t, %t) of %v = %v, not %v", row.count, row.owner, row.data, row.has, got, row.given)
		}
		if row.rest == none {
			checkNoLine(t, c)
			continue
		}
		checkAll(t, c, line(4, row.rest), line(7, some(5)))
		// To take is no use of the line.
		checkOrder(t, c, 4, 7)
	}
}

// checkNoLine tells where 4 has a line still, beside that of 7, in a set of two ways.
func checkNoLine(t *testing.T, c *Cache) {
	t.Helper()
	checkAll(t, c, line(7, some(5)))
	if got := c.Get(4); got != (api.Bundle{}) {
		t.Errorf("Get(4) = %v", got)
	}
	if got := c.Take(4, 1, true, true); got != (api.Bundle{}) {
		t.Errorf("Take(4, ..) = %v", got)
	}
	// Its room is another one's now, and nobody else's than 7 is next then.
	absorb(t, c, 9, valued(2, 3))
	checkAll(t, c, line(7, some(5)), line(9, valued(2, 3)))
	checkGoes(t, c, 4, some(1), -1, line(7, some(5)))
	checkAll(t, c, line(4, some(1)), line(9, valued(2, 3)))
}

// P9.2: of a block that has no line nothing goes, and nothing is changed.
func TestTakeOfNoLine(t *testing.T) {
	for _, block := range append([]int{0, 3, 5, 9, math.MaxInt}, noBlocks...) {
		for _, count := range []int{math.MinInt, -1, 0, 1, 5, math.MaxInt} {
			for _, flags := range [][2]bool{{}, {true, false}, {false, true}, {true, true}} {
				c, empty := filled(t, 1, 2, line(4, valued(1, 5)), line(7, owned(2, 6))), New(2, 2)
				if got := c.Take(block, count, flags[0], flags[1]); got != (api.Bundle{}) {
					t.Errorf("Take(%d, %d, ..) = %v", block, count, got)
				}
				checkAll(t, c, line(4, valued(1, 5)), line(7, owned(2, 6)))
				checkOrder(t, c, 4, 7)
				empty.Take(block, count, flags[0], flags[1])
				checkAll(t, empty)
			}
		}
	}
}

// P9.2: a block whose tokens all went and came again was used last, and has none of its former ones.
func TestTakeAllAndAbsorbAgain(t *testing.T) {
	c := filled(t, 1, 3, line(1, owned(1, 5)), line(2, some(2)), line(3, some(3)))
	c.Take(2, 2, false, false)
	absorb(t, c, 2, some(1))
	checkOrder(t, c, 1, 3, 2)
	c.Take(1, 1, true, false)
	absorb(t, c, 1, some(4))
	checkAll(t, c, line(1, some(4)), line(2, some(1)), line(3, some(3)))
	checkOrder(t, c, 3, 2, 1)
}

// P9.2: an operation is done with its block's tokens, as perm.Do has it; one that was done used the line.
func TestDo(t *testing.T) {
	for _, row := range []struct {
		has    api.Bundle
		write  bool
		value  int64
		tokens int
		want   int64
		done   bool
		then   api.Bundle
	}{
		// Loads.
		{valued(1, 7), false, 0, 3, 7, true, valued(1, 7)},
		{valued(1, 7), false, 9, 3, 7, true, valued(1, 7)},
		{owned(3, -7), false, 9, 3, -7, true, owned(3, -7)},
		{owned(2, 0), false, 9, 0, 0, true, owned(2, 0)},
		{valued(3, math.MinInt64), false, 1, math.MinInt, math.MinInt64, true, valued(3, math.MinInt64)},
		{some(1), false, 9, 3, 0, false, some(1)},
		{some(3), false, 9, 3, 0, false, some(3)},
		{api.Bundle{Count: 3, Data: 5}, false, 9, 3, 0, false, api.Bundle{Count: 3, Data: 5}},
		// Stores.
		{valued(3, 7), true, 9, 3, 9, true, valued(3, 9)},
		{owned(3, 7), true, 9, 3, 9, true, owned(3, 9)},
		{owned(1, 7), true, 0, 1, 0, true, owned(1, 0)},
		{owned(3, 7), true, 7, 3, 7, true, owned(3, 7)},
		{owned(65536, 7), true, math.MinInt64, 65536, math.MinInt64, true, owned(65536, math.MinInt64)},
		{owned(2, 7), true, 9, 3, 0, false, owned(2, 7)},
		{owned(3, 7), true, 9, 2, 0, false, owned(3, 7)},
		{valued(1, 7), true, 9, 3, 0, false, valued(1, 7)},
		{some(3), true, 9, 3, 0, false, some(3)},
		{owned(3, 7), true, 9, 0, 0, false, owned(3, 7)},
		{owned(3, 7), true, 9, -3, 0, false, owned(3, 7)},
		{owned(3, 7), true, 9, math.MaxInt, 0, false, owned(3, 7)},
	} {
		c := filled(t, 1, 2, line(4, row.has), line(7, owned(5, 1)))
		op := api.Op{Block: 4, Write: row.write, Value: row.value}
		then, value, done := perm.Do(op, row.has, row.tokens)
		if then != row.then || value != row.want || done != row.done {
			t.Fatalf("perm.Do(%v, %v, %d) = %v, %d, %t", op, row.has, row.tokens, then, value, done)
		}
		if value, done := c.Do(op, row.tokens); value != row.want || done != row.done {
			t.Errorf("Do(%v, %d) of %v = %d, %t, not %d, %t", op, row.tokens, row.has, value, done, row.want, row.done)
		}
		checkAll(t, c, line(4, row.then), line(7, owned(5, 1)))
		if row.done {
			checkOrder(t, c, 7, 4)
		} else {
			checkOrder(t, c, 4, 7)
		}
	}
}

// P9.2: with a block that has no line nothing is done, and nothing is changed.
func TestDoOfNoLine(t *testing.T) {
	for _, block := range append([]int{0, 3, 5, 9, math.MaxInt}, noBlocks...) {
		for _, tokens := range []int{math.MinInt, -1, 0, 1, 2, math.MaxInt} {
			for _, write := range []bool{false, true} {
				c, empty := filled(t, 1, 2, line(4, valued(1, 5)), line(7, owned(2, 6))), New(2, 2)
				op := api.Op{Block: block, Write: write, Value: 9}
				for _, x := range []*Cache{c, empty} {
					if value, done := x.Do(op, tokens); value != 0 || done {
						t.Errorf("Do(%v, %d) = %d, %t", op, tokens, value, done)
					}
				}
				checkAll(t, c, line(4, valued(1, 5)), line(7, owned(2, 6)))
				checkOrder(t, c, 4, 7)
				checkAll(t, empty)
			}
		}
	}
}

// P9.2: what a store left is what a load, Get, Take and a line that goes tell.
func TestWhatAStoreLeft(t *testing.T) {
	c := filled(t, 1, 1, line(4, owned(3, 7)))
	c.Do(api.Op{Block: 4, Write: true, Value: 9}, 3)
	if value, done := c.Do(api.Op{Block: 4}, 3); value != 9 || !done {
		t.Errorf("a load is %d, %t", value, done)
	}
	if got := c.Take(4, 1, false, true); got != valued(1, 9) {
		t.Errorf("Take = %v", got)
	}
	if value, done := c.Do(api.Op{Block: 4, Write: true, Value: 8}, 3); value != 0 || done {
		t.Errorf("a store with two of three is %d, %t", value, done)
	}
	checkGoes(t, c, 5, some(1), -1, line(4, owned(2, 9)))
}

// P9.1: a copy has the lines, the tokens, the order of use, the sets and the ways.
func TestCopyIsLikeIt(t *testing.T) {
	for _, sets := range []int{1, 2, 64} {
		for ways := 1; ways <= 16; ways++ {
			c := New(sets, ways).Copy()
			checkAll(t, c)
			var want []api.Line
			for i := range ways {
				block := (i*7 + 3) % 17 * sets
				absorb(t, c, block, valued(i+1, int64(i)))
				want = append(want, line(block, valued(i+1, int64(i))))
			}
			c.Do(api.Op{Block: want[0].Block}, 99)
			want = append(want[1:], want[0])
			d := c.Copy().Copy()
			if !slices.Equal(d.All(), c.All()) {
				t.Fatalf("%v, not %v", d.All(), c.All())
			}
			// Of the set of 0 each goes in its turn, in both.
			for i, l := range want {
				checkGoes(t, d, 1000*sets+i*sets, some(1), -1, l)
				checkGoes(t, c, 1000*sets+i*sets, some(1), -1, l)
			}
		}
	}
}

// P9.1: neither a copy nor what it was made of knows what becomes of the other one.
func TestCopyIsOnItsOwn(t *testing.T) {
	has := []api.Line{line(4, owned(3, 7)), line(6, some(2))}
	changes := []func(c *Cache){
		func(c *Cache) { c.Absorb(4, some(1), -1) },
		func(c *Cache) { c.Absorb(8, some(1), -1) },
		func(c *Cache) { c.Absorb(8, some(1), 4) },
		func(c *Cache) { c.Absorb(5, some(1), -1) },
		func(c *Cache) { c.Take(4, 1, true, true) },
		func(c *Cache) { c.Take(4, 3, true, true) },
		func(c *Cache) { c.Take(6, 2, true, true); c.Absorb(6, some(9), -1) },
		func(c *Cache) { c.Do(api.Op{Block: 4}, 3) },
		func(c *Cache) { c.Do(api.Op{Block: 4, Write: true, Value: 9}, 3) },
		func(c *Cache) {
			for block := range 40 {
				c.Absorb(block, owned(9, 9), -1)
			}
		},
	}
	unchanged := func(c *Cache) {
		t.Helper()
		checkAll(t, c, has...)
		c = c.Copy()
		checkGoes(t, c, 8, some(1), -1, has[0])
		checkGoes(t, c, 10, some(1), -1, has[1])
		absorb(t, c, 1, some(1))
		absorb(t, c, 3, some(1))
	}
	for _, change := range changes {
		c := filled(t, 2, 2, has...)
		d := c.Copy()
		change(d)
		unchanged(c)

		d = c.Copy()
		change(c)
		unchanged(d)
	}
}

// plain is what the promises say in so many words: all lines stand in one list, in the order of their use.
type plain struct {
	sets, ways int
	lines      []api.Line
}

func (p *plain) at(block int) int {
	return slices.IndexFunc(p.lines, func(l api.Line) bool { return l.Block == block })
}

func (p *plain) get(block int) api.Bundle {
	if at := p.at(block); at >= 0 {
		return p.lines[at].Tokens
	}
	return api.Bundle{}
}

// used puts a line last, with what it has then.
func (p *plain) used(block int, b api.Bundle) {
	at := p.at(block)
	p.lines = append(slices.Delete(p.lines, at, at+1), line(block, b))
}

func (p *plain) absorb(block int, b api.Bundle, pinned int) (api.Line, bool) {
	if b.Count < 1 {
		return api.Line{}, false
	}
	if block < 0 {
		return line(block, b), true
	}
	if p.at(block) >= 0 {
		p.used(block, bundle.Join(p.get(block), b))
		return api.Line{}, false
	}
	together, goes := 0, -1
	for at, l := range p.lines {
		if l.Block%p.sets != block%p.sets {
			continue
		}
		together++
		if goes < 0 && l.Block != pinned {
			goes = at
		}
	}
	if together < p.ways {
		p.lines = append(p.lines, line(block, b))
		return api.Line{}, false
	}
	if goes < 0 {
		return line(block, b), true
	}
	gone := p.lines[goes]
	p.lines = append(slices.Delete(p.lines, goes, goes+1), line(block, b))
	return gone, true
}

func (p *plain) take(block, count int, owner, data bool) api.Bundle {
	at := p.at(block)
	if at < 0 {
		return api.Bundle{}
	}
	given, rest := bundle.Split(p.get(block), count, owner, data)
	p.lines[at].Tokens = rest
	if rest.Count == 0 {
		p.lines = slices.Delete(p.lines, at, at+1)
	}
	return given
}

func (p *plain) do(op api.Op, tokens int) (int64, bool) {
	then, value, done := perm.Do(op, p.get(op.Block), tokens)
	if done {
		p.used(op.Block, then)
	}
	return value, done
}

func (p *plain) all() []api.Line {
	return slices.SortedFunc(slices.Values(p.lines), func(a, b api.Line) int { return a.Block - b.Block })
}

func (p *plain) copy() *plain {
	return &plain{p.sets, p.ways, slices.Clone(p.lines)}
}

// call is one of Absorb, Take and Do.
type call struct {
	kind, block, count, pinned int
	owner, data                bool
	value                      int64
}

// both has a call done by a Cache and by a plain one, and tells where they differ.
func (x call) both(t *testing.T, c *Cache, p *plain) {
	t.Helper()
	switch x.kind {
	case 0:
		b := api.Bundle{Count: x.count, Owner: x.owner, Has: x.data || x.owner}
		if b.Has {
			b.Data = x.value
		}
		gone, went := c.Absorb(x.block, b, x.pinned)
		if wantGone, want := p.absorb(x.block, b, x.pinned); gone != wantGone || went != want {
			t.Fatalf("Absorb(%d, %v, %d) = %v, %t, not %v, %t, then %v", x.block, b, x.pinned, gone, went, wantGone, want, p.lines)
		}
	case 1:
		got := c.Take(x.block, x.count, x.owner, x.data)
		if want := p.take(x.block, x.count, x.owner, x.data); got != want {
			t.Fatalf("Take(%d, %d, %t, %t) = %v, not %v", x.block, x.count, x.owner, x.data, got, want)
		}
	case 2:
		op := api.Op{Block: x.block, Write: x.owner, Value: x.value}
		value, done := c.Do(op, x.count)
		if wantValue, want := p.do(op, x.count); value != wantValue || done != want {
			t.Fatalf("Do(%v, %d) = %d, %t, not %d, %t", op, x.count, value, done, wantValue, want)
		}
	}
	if !slices.Equal(c.All(), p.all()) {
		t.Fatalf("behind %v: %v, not %v", x, c.All(), p.all())
	}
}

// P9.1, P9.2: all orders of a few calls, from each point of them on a copy, are as the promises say.
func TestAllOrders(t *testing.T) {
	var calls []call
	for _, block := range []int{0, 2, 4} {
		calls = append(calls,
			call{kind: 0, block: block, count: 1, pinned: -1, data: true, value: 5},
			call{kind: 1, block: block, count: 1, data: true},
			call{kind: 2, block: block, count: 1, owner: block == 0, value: 6},
		)
	}
	calls = append(calls,
		call{kind: 0, block: 4, count: 2, pinned: 0},
		call{kind: 0, block: 1, count: 2, pinned: 3, owner: true},
	)
	var follow func(c *Cache, p *plain, left int)
	follow = func(c *Cache, p *plain, left int) {
		if left == 0 {
			return
		}
		for _, x := range calls {
			d, q := c.Copy(), p.copy()
			x.both(t, d, q)
			follow(d, q, left-1)
		}
	}
	for _, size := range [][2]int{{1, 1}, {1, 2}, {2, 2}} {
		follow(New(size[0], size[1]), &plain{sets: size[0], ways: size[1]}, 5)
	}
}

// anyCall is one of small numbers, so that lines meet often.
func anyCall(random *rand.Rand, blocks int) call {
	return call{
		kind:   random.Intn(3),
		block:  random.Intn(blocks+1) - 1,
		count:  random.Intn(6) - 1,
		pinned: random.Intn(blocks+2) - 2,
		owner:  random.Intn(3) == 0,
		data:   random.Intn(2) == 0,
		value:  random.Int63n(9) - 4,
	}
}

// P9.1, P9.2: long orders of calls are as the promises say.
func TestLongOrders(t *testing.T) {
	random := rand.New(rand.NewSource(92))
	for range 60 {
		sets, ways := random.Intn(5)+1, random.Intn(5)+1
		c, p := New(sets, ways), &plain{sets: sets, ways: ways}
		for range 1000 {
			anyCall(random, 3*sets*ways).both(t, c, p)
			if random.Intn(50) == 0 {
				c = c.Copy()
			}
		}
	}
}

// tally is what is somewhere of a block.
type tally struct{ count, owners int }

func (a tally) more(b api.Bundle) tally {
	a.count += b.Count
	if b.Owner {
		a.owners++
	}
	return a
}

func (a tally) less(b api.Bundle) tally {
	a.count -= b.Count
	if b.Owner {
		a.owners--
	}
	return a
}

// P9.3: over any calls, what came of each block, less what went, is there, the owner's token too; and each line has a token.
func TestTokensAreNeitherMadeNorLost(t *testing.T) {
	random := rand.New(rand.NewSource(93))
	for range 60 {
		sets, ways := random.Intn(4)+1, random.Intn(4)+1
		c, want := New(sets, ways), map[int]tally{}
		for range 1000 {
			x := anyCall(random, 3*sets*ways)
			switch x.kind {
			case 0:
				// A second owner's token of a block never comes.
				b := api.Bundle{Count: x.count, Owner: x.owner && want[x.block].owners == 0, Has: x.owner || x.data}
				if gone, went := c.Absorb(x.block, b, x.pinned); went {
					want[gone.Block] = want[gone.Block].less(gone.Tokens)
				}
				if b.Count >= 1 {
					want[x.block] = want[x.block].more(b)
				}
			case 1:
				want[x.block] = want[x.block].less(c.Take(x.block, x.count, x.owner, x.data))
			case 2:
				c.Do(api.Op{Block: x.block, Write: x.owner, Value: x.value}, want[x.block].count)
			}
			checkTally(t, c, want)
		}
	}
}

// checkTally tells where what is there isn't what is wanted, of each block.
func checkTally(t *testing.T, c *Cache, want map[int]tally) {
	t.Helper()
	there := map[int]tally{}
	for _, l := range c.All() {
		if l.Tokens.Count < 1 {
			t.Fatalf("a line without tokens: %v", l)
		}
		there[l.Block] = tally{}.more(l.Tokens)
	}
	for block, w := range want {
		if there[block] != w || (tally{}).more(c.Get(block)) != w {
			t.Fatalf("of %d there are %v, and not %v", block, there[block], w)
		}
	}
	for block := range there {
		if _, came := want[block]; !came {
			t.Fatalf("%d has %v, and none came", block, there[block])
		}
	}
}

// P9.3: a pinned block's line never goes in another one's place, nor is it changed, whatever comes.
func TestAPinnedLineStays(t *testing.T) {
	random := rand.New(rand.NewSource(933))
	for sets := 1; sets <= 4; sets++ {
		for ways := 1; ways <= 4; ways++ {
			for pinned := range 3 * sets {
				c := New(sets, ways)
				for _, block := range random.Perm(3 * sets * ways) {
					c.Absorb(block, some(block+1), -1)
				}
				// It may be gone by now: that it comes again is its own doing.
				c.Absorb(pinned, owned(2, 7), -1)
				has := c.Get(pinned)
				for range 50 {
					block := random.Intn(6 * sets * ways)
					if block == pinned {
						continue
					}
					b := valued(random.Intn(3)+1, 4)
					if gone, went := c.Absorb(block, b, pinned); went && gone.Block == pinned {
						t.Fatalf("%d sets, %d ways: %v went for %d, though pinned", sets, ways, gone, block)
					}
					if c.Get(pinned) != has {
						t.Fatalf("%d sets, %d ways: %d has %v, not %v", sets, ways, pinned, c.Get(pinned), has)
					}
				}
			}
		}
	}
}

// P9.2: no call panics, and each ends, even where counts are beyond all that tokens can be.
func TestCallsEndWhateverTheyAreHanded(t *testing.T) {
	extremes := []int{math.MinInt, math.MinInt + 1, -1, 0, 1, 2, math.MaxInt - 1, math.MaxInt}
	for _, sets := range extremes {
		for _, ways := range extremes {
			c := New(sets, ways)
			for _, count := range extremes {
				for _, block := range extremes {
					for _, flag := range []bool{false, true} {
						c.Absorb(block, api.Bundle{Count: count, Owner: flag, Has: !flag, Data: math.MinInt64}, count)
						c.Do(api.Op{Block: block, Write: flag, Value: math.MaxInt64}, count)
						c.Take(block, count, flag, !flag)
						c.Get(block)
					}
				}
				c = c.Copy()
				c.All()
			}
		}
	}
}
