package lines

import (
	"math"
	"math/big"
	"math/rand"
	"slices"
	"testing"
)

// noBlocks are numbers below 0: none of them is a block.
var noBlocks = []int{
	math.MinInt, math.MinInt + 1, math.MinInt32 - 1, math.MinInt32, -65, -64, -63, -17, -16, -4, -3, -2, -1,
}

// great are blocks far beyond those of a world.
var great = []int{
	64, 65, 1 << 20, math.MaxInt32 - 1, math.MaxInt32, math.MaxInt32 + 1,
	math.MaxInt - 65, math.MaxInt - 64, math.MaxInt - 63, math.MaxInt - 3, math.MaxInt - 2, math.MaxInt - 1, math.MaxInt,
}

// added has lines for these blocks, used in that order.
func added(t *testing.T, sets, ways int, blocks ...int) *Lines {
	t.Helper()
	l := New(sets, ways)
	for _, b := range blocks {
		if !l.Add(b) {
			t.Fatalf("New(%d, %d): Add(%d) = false, with %v", sets, ways, b, l.List())
		}
	}
	return l
}

// checkList tells where List, or Has, isn't what is wanted.
func checkList(t *testing.T, l *Lines, want ...int) {
	t.Helper()
	if got := l.List(); !slices.Equal(got, want) {
		t.Fatalf("List() = %v, not %v", got, want)
	}
	for _, b := range want {
		if !l.Has(b) {
			t.Fatalf("Has(%d) = false, with %v", b, want)
		}
	}
}

// checkVictim tells where Victim isn't what is wanted.
func checkVictim(t *testing.T, l *Lines, block, pinned, want int, may bool) {
	t.Helper()
	if got, ok := l.Victim(block, pinned); got != want || ok != may {
		t.Fatalf("Victim(%d, %d) = %d, %t, not %d, %t, with %v", block, pinned, got, ok, want, may, l.List())
	}
}

// checkOrder tells where the lines of a full set don't go in that order; each goes as another comes for it.
func checkOrder(t *testing.T, l *Lines, others []int, want ...int) {
	t.Helper()
	for i, b := range want {
		checkVictim(t, l, others[i], -1, b, true)
		if !l.Remove(b) || !l.Add(others[i]) {
			t.Fatalf("%d didn't go for %d, with %v", b, others[i], l.List())
		}
	}
}

// P8.1, P8.2: the chapter's example.
func TestExample(t *testing.T) {
	l := New(1, 2)
	if !l.Add(4) || !l.Add(7) || !l.Use(4) {
		t.Fatal(l.List())
	}
	checkVictim(t, l, 9, -1, 7, true)
	checkVictim(t, l, 9, 7, 4, true)
	checkList(t, l, 4, 7)
}

// counts are what New is handed, and what counts for it, if just most may be.
func counts(most int) map[int]int {
	return map[int]int{
		math.MinInt: 1, math.MinInt + 1: 1, math.MinInt32 - 1: 1, -65: 1, -2: 1, -1: 1, 0: 1,
		1: 1, 2: 2, 3: 3, 7: 7, 15: 15, most - 1: most - 1, most: most,
		most + 1: most, 2 * most: most, 2*most + 1: most, 1000: most,
		math.MaxInt32 + 1: most, math.MaxInt - 1: most, math.MaxInt: most,
	}
}

// P8.1: a new one has no lines, and as many sets, and ways of each, as are asked for, within 1 to 64 and 1 to 16.
func TestNew(t *testing.T) {
	for sets, haveSets := range counts(64) {
		for ways, haveWays := range counts(16) {
			l := New(sets, ways)
			checkList(t, l)
			var all []int
			// Each block of the first sets * ways ones has room, each of the others has none.
			for b := range haveSets * haveWays {
				if l.Has(b) || l.Use(b) || l.Remove(b) {
					t.Fatalf("New(%d, %d): %d has a line", sets, ways, b)
				}
				checkVictim(t, l, b, -1, -1, true)
				if !l.Add(b) {
					t.Fatalf("New(%d, %d): Add(%d) = false", sets, ways, b)
				}
				all = append(all, b)
			}
			for b := range haveSets {
				more := haveSets*haveWays + b
				if l.Add(more) {
					t.Fatalf("New(%d, %d): Add(%d) = true", sets, ways, more)
				}
				checkVictim(t, l, more, -1, b, true)
			}
			checkList(t, l, all...)
		}
	}
}

// P8.1: blocks whose numbers differ by some times the sets share a set, and no others do.
func TestSets(t *testing.T) {
	for sets := 1; sets <= 64; sets++ {
		for _, b := range append([]int{0, 1, 2, 31, 63, 64, 129}, great...) {
			l := added(t, sets, 1, b)
			for other := max(b-130, 0); other-b <= 130 && other >= 0 && other < math.MaxInt; other++ {
				if other == b {
					continue
				}
				together := (other-b)%sets == 0
				want := -1
				if together {
					want = b
				}
				checkVictim(t, l, other, -1, want, true)
				if l.Add(other) == together {
					t.Fatalf("%d sets: Add(%d) = %t, with %d", sets, other, !together, b)
				}
				l.Remove(other)
			}
			checkList(t, l, b)
		}
	}
}

// P8.1: a block that has a line gets no second one, nor is it used by that.
func TestAddOfOneThatHasALine(t *testing.T) {
	l := added(t, 1, 3, 5, 0)
	for range 3 {
		if l.Add(5) || l.Add(0) {
			t.Fatal("Add of one that has a line = true")
		}
		checkList(t, l, 0, 5)
	}
	if !l.Add(2) {
		t.Fatal("Add(2) = false")
	}
	if l.Add(5) || l.Add(0) || l.Add(2) {
		t.Fatal("Add of one that has a line = true")
	}
	checkList(t, l, 0, 2, 5)
	checkOrder(t, l, []int{10, 11, 12}, 5, 0, 2)
}

// P8.1: a full set takes no block, and is as it was; another set does.
func TestAddToAFullSet(t *testing.T) {
	l := added(t, 3, 2, 1, 7)
	for _, b := range []int{4, 10, 13, 301} {
		if l.Add(b) || l.Has(b) {
			t.Errorf("Add(%d) = true", b)
		}
	}
	checkList(t, l, 1, 7)
	if !l.Add(0) || !l.Add(2) || !l.Add(3) || !l.Add(302) {
		t.Error("Add to another set = false")
	}
	checkList(t, l, 0, 1, 2, 3, 7, 302)
	if l.Add(6) || l.Add(5) || l.Add(4) {
		t.Error("Add to a full set = true")
	}
	checkOrder(t, l, []int{4, 10}, 1, 7)
	checkList(t, l, 0, 2, 3, 4, 10, 302)
}

// P8.1: numbers below 0 are no blocks: they get no line, have none, and change nothing.
func TestNoBlocks(t *testing.T) {
	for _, l := range []*Lines{New(1, 1), New(64, 16), added(t, 1, 2, 0, 1), added(t, 3, 2, 2, 1, 5)} {
		had := l.List()
		for _, b := range noBlocks {
			if l.Add(b) || l.Has(b) || l.Use(b) || l.Remove(b) {
				t.Errorf("%d has a line, with %v", b, l.List())
			}
			checkList(t, l, had...)
		}
	}
	l := added(t, 1, 2, 3, 1)
	for _, b := range noBlocks {
		l.Add(b)
		l.Use(b)
		l.Remove(b)
	}
	checkOrder(t, l, []int{5, 6}, 3, 1)
}

// P8.1: Use tells whether there is a line, and changes who goes next.
func TestUse(t *testing.T) {
	l := New(1, 3)
	if l.Use(0) || l.Use(4) {
		t.Error("Use of none = true")
	}
	checkList(t, l)
	l = added(t, 1, 3, 8, 2, 5)
	checkVictim(t, l, 9, -1, 8, true)
	for _, row := range []struct{ used, next int }{{8, 2}, {2, 5}, {5, 8}, {5, 8}, {8, 2}, {8, 2}, {5, 2}, {2, 8}} {
		if !l.Use(row.used) {
			t.Fatalf("Use(%d) = false", row.used)
		}
		checkList(t, l, 2, 5, 8)
		checkVictim(t, l, 9, -1, row.next, true)
		if l.Use(9) || l.Use(0) || l.Use(-1) {
			t.Fatal("Use of none = true")
		}
		checkVictim(t, l, 9, -1, row.next, true)
	}
	checkOrder(t, l, []int{10, 11, 12}, 8, 5, 2)
}

// P8.1: Use of each of each number of lines puts it behind the others, which keep their order.
func TestUseOfEach(t *testing.T) {
	for ways := 1; ways <= 16; ways++ {
		var blocks, others []int
		for i := range ways {
			blocks, others = append(blocks, (i*7+3)%17), append(others, 100+i)
		}
		for at, b := range blocks {
			l := added(t, 1, ways, blocks...)
			if !l.Use(b) {
				t.Fatalf("Use(%d) = false, with %v", b, l.List())
			}
			want := append(slices.Delete(slices.Clone(blocks), at, at+1), b)
			checkOrder(t, l, others, want...)
		}
	}
}

// P8.1: a use in one set changes nothing in another one.
func TestUseInAnotherSet(t *testing.T) {
	l := added(t, 2, 2, 0, 1, 2, 3)
	l.Use(1)
	checkVictim(t, l, 4, -1, 0, true)
	checkVictim(t, l, 5, -1, 3, true)
	l.Use(0)
	checkVictim(t, l, 4, -1, 2, true)
	checkVictim(t, l, 5, -1, 3, true)
}

// P8.1: Remove tells whether there was a line; the others keep their order, and its room is free.
func TestRemove(t *testing.T) {
	for ways := 1; ways <= 16; ways++ {
		var blocks, others []int
		for i := range ways {
			blocks, others = append(blocks, (i*7+3)%17), append(others, 100+i)
		}
		for at, b := range blocks {
			l := added(t, 1, ways, blocks...)
			if l.Remove(99) || l.Remove(-1) || !l.Remove(b) || l.Remove(b) || l.Has(b) || l.Use(b) {
				t.Fatalf("Remove(%d) of %v", b, blocks)
			}
			rest := slices.Delete(slices.Clone(blocks), at, at+1)
			checkList(t, l, slices.Sorted(slices.Values(rest))...)
			checkVictim(t, l, 99, -1, -1, true)
			if !l.Add(99) || l.Add(98) {
				t.Fatalf("Remove(%d) of %v left not one's room", b, blocks)
			}
			checkOrder(t, l, others, append(rest, 99)...)
		}
	}
}

// P8.1: a block that is removed and added again was used last.
func TestRemoveAndAddAgain(t *testing.T) {
	l := added(t, 1, 3, 1, 2, 3)
	l.Use(1)
	if !l.Remove(2) || !l.Add(2) {
		t.Fatal("Remove, or Add again, of 2 = false")
	}
	checkVictim(t, l, 9, -1, 3, true)
	if !l.Remove(3) || !l.Add(3) {
		t.Fatal("Remove, or Add again, of 3 = false")
	}
	checkOrder(t, l, []int{10, 11, 12}, 1, 2, 3)
}

// P8.1: all lines may go and come again, as if they were the first.
func TestRemoveAll(t *testing.T) {
	l := added(t, 2, 2, 3, 2, 1, 0)
	for range 3 {
		for _, b := range []int{2, 3, 0, 1} {
			if !l.Remove(b) {
				t.Fatalf("Remove(%d) = false", b)
			}
		}
		checkList(t, l)
		for _, b := range []int{0, 1, 2, 3} {
			checkVictim(t, l, b, -1, -1, true)
			if !l.Add(b) {
				t.Fatalf("Add(%d) = false", b)
			}
		}
		checkList(t, l, 0, 1, 2, 3)
		checkVictim(t, l, 4, -1, 0, true)
		checkVictim(t, l, 5, -1, 1, true)
	}
}

// P8.1: List is rising, whatever the order of the calls and however many sets there are.
func TestListIsRising(t *testing.T) {
	want := []int{0, 1, 5, 6, 64, 130, 1 << 40, math.MaxInt - 1, math.MaxInt}
	random := rand.New(rand.NewSource(8))
	for _, sets := range []int{1, 2, 3, 5, 63, 64} {
		for range 50 {
			blocks := slices.Clone(want)
			random.Shuffle(len(blocks), func(i, j int) { blocks[i], blocks[j] = blocks[j], blocks[i] })
			l := added(t, sets, 16, blocks...)
			checkList(t, l, want...)
			for _, b := range blocks[:5] {
				l.Use(b)
			}
			checkList(t, l, want...)
			for _, b := range blocks[2:6] {
				l.Remove(b)
			}
			rest := append(slices.Clone(blocks[:2]), blocks[6:]...)
			slices.Sort(rest)
			checkList(t, l, rest...)
		}
	}
}

// P8.1: what List gave is the caller's own, its spare room too, and no later call is to be seen in it.
func TestListIsTheCallers(t *testing.T) {
	for _, sets := range []int{1, 2, 64} {
		l := added(t, sets, 16, 6, 2, 4)
		first, second := l.List(), l.List()
		for i := range first {
			first[i] = 90 + i
		}
		for range 20 {
			first = append(first, 99)
		}
		checkList(t, l, 2, 4, 6)
		checkVictim(t, l, 90, -1, -1, true)
		l.Remove(4)
		l.Use(2)
		l.Add(8)
		l.Add(0)
		if !slices.Equal(second, []int{2, 4, 6}) {
			t.Errorf("List gave %v", second)
		}
		checkList(t, l, 0, 2, 6, 8)
	}
	full := added(t, 1, 2, 3, 1)
	got := full.List()
	got[0], got[1] = 3, 1
	checkOrder(t, full, []int{5, 6}, 3, 1)
}

// P8.2: of a number below 0 there is no victim, however full the lines are, and whoever is pinned.
func TestVictimOfNoBlock(t *testing.T) {
	for _, l := range []*Lines{New(1, 1), added(t, 1, 1, 0), added(t, 2, 2, 0, 1, 2, 3)} {
		for _, b := range noBlocks {
			for _, pinned := range append([]int{0, 1, 2, 3, 9, math.MaxInt}, noBlocks...) {
				checkVictim(t, l, b, pinned, -1, false)
			}
		}
	}
}

// P8.2: nobody must go for a block that has a line, be its set full or not, whoever is pinned.
func TestVictimOfOneThatHasALine(t *testing.T) {
	for _, l := range []*Lines{added(t, 1, 2, 6, 4), added(t, 1, 3, 6, 4), added(t, 2, 2, 6, 4), added(t, 64, 1, 6, 4)} {
		for _, pinned := range []int{4, 6, 0, 9, -1, math.MinInt, math.MaxInt} {
			checkVictim(t, l, 4, pinned, -1, true)
			checkVictim(t, l, 6, pinned, -1, true)
		}
	}
	// The only line of its set, pinned by itself.
	checkVictim(t, added(t, 1, 1, 6), 6, 6, -1, true)
}

// P8.2: nobody must go while the set isn't full, be another one full or not.
func TestVictimOfASetWithRoom(t *testing.T) {
	l := added(t, 2, 2, 0, 2, 1)
	for _, pinned := range []int{0, 1, 2, 3, 5, -1, math.MinInt, math.MaxInt} {
		checkVictim(t, l, 3, pinned, -1, true)
		checkVictim(t, l, 5, pinned, -1, true)
		checkVictim(t, New(1, 1), 3, pinned, -1, true)
	}
}

// P8.2: of a full set, the one used longest ago goes, but for the pinned one.
func TestVictimOfAFullSet(t *testing.T) {
	// Used in the order 9, 3, 6; and of the other sets 1 and 2.
	l := added(t, 3, 3, 6, 9, 1, 3, 2)
	l.Use(6)
	rows := []struct{ pinned, want int }{
		// the one that was used longest ago
		{9, 3},
		// another one of the set
		{3, 9}, {6, 9},
		// one of another set
		{1, 9}, {2, 9},
		// one that has no line, of this set and of the others, and the one that comes itself
		{12, 9}, {15, 9}, {4, 9}, {5, 9}, {math.MaxInt, 9}, {0, 9},
		// one that is none
		{-1, 9}, {-3, 9}, {-9, 9}, {math.MinInt, 9},
	}
	for _, r := range rows {
		for _, block := range []int{0, 12, 300, math.MaxInt - math.MaxInt%3} {
			checkVictim(t, l, block, r.pinned, r.want, true)
		}
	}
}

// P8.2: with one way alone and its line pinned, none may go; with another one pinned, it goes.
func TestVictimOfOneWay(t *testing.T) {
	l := added(t, 2, 1, 4, 1)
	for _, block := range []int{0, 2, 6, math.MaxInt - 1} {
		checkVictim(t, l, block, 4, -1, false)
		for _, pinned := range []int{1, 0, 3, 8, -1, -4, math.MinInt, math.MaxInt} {
			checkVictim(t, l, block, pinned, 4, true)
		}
	}
	checkVictim(t, l, 3, 1, -1, false)
	checkVictim(t, l, 3, 4, 1, true)
}

// P8.1, P8.2: Victim, Has and List change nothing, whatever they are asked.
func TestAsksChangeNothing(t *testing.T) {
	asked := append([]int{0, 1, 2, 3, 4, 5, 6, 7, 8}, append(slices.Clone(noBlocks), great...)...)
	l := added(t, 2, 2, 4, 1, 0, 3)
	l.Use(4)
	for range 3 {
		for _, b := range asked {
			l.Has(b)
			l.List()
			for _, pinned := range asked {
				l.Victim(b, pinned)
			}
		}
		checkList(t, l, 0, 1, 3, 4)
	}
	checkOrder(t, l, []int{6, 8}, 0, 4)
	checkOrder(t, l, []int{5, 7}, 1, 3)
	checkList(t, l, 5, 6, 7, 8)
}

// P8.1, P8.2: great blocks are blocks as others are.
func TestGreatBlocks(t *testing.T) {
	l := added(t, 1, 16, great...)
	checkList(t, l, great...)
	for _, b := range great {
		if l.Add(b) || !l.Use(b) || !l.Remove(b) || l.Has(b) || !l.Add(b) {
			t.Errorf("%d has no line", b)
		}
	}
	checkList(t, l, great...)
	l = added(t, 64, 1, math.MaxInt)
	checkVictim(t, l, math.MaxInt-64, -1, math.MaxInt, true)
	checkVictim(t, l, 63, -1, math.MaxInt, true)
	checkVictim(t, l, 63, math.MaxInt, -1, false)
	checkVictim(t, l, math.MaxInt-1, math.MaxInt, -1, true)
	for sets := 1; sets <= 64; sets++ {
		l := added(t, sets, 1, math.MaxInt)
		at := int(new(big.Int).Mod(big.NewInt(math.MaxInt), big.NewInt(int64(sets))).Int64())
		for b := range sets {
			if got := l.Add(b); got != (b != at) {
				t.Errorf("%d sets: Add(%d) = %t, with the greatest int", sets, b, got)
			}
		}
	}
}

// P8.1: a copy has the sets, the ways, the lines and the order of use.
func TestCopyIsLikeIt(t *testing.T) {
	for sets, haveSets := range counts(64) {
		for ways, haveWays := range counts(16) {
			l := New(sets, ways)
			for b := haveSets*haveWays - 1; b >= 0; b-- {
				l.Add(b)
			}
			l.Use(haveSets * (haveWays - 1))
			for _, c := range []*Lines{l.Copy(), l.Copy().Copy()} {
				checkList(t, c, l.List()...)
				for b := range haveSets {
					more := haveSets*haveWays + b
					want, ok := l.Victim(more, -1)
					checkVictim(t, c, more, -1, want, ok)
					if c.Add(more) {
						t.Fatalf("New(%d, %d): its copy has more room", sets, ways)
					}
				}
			}
			empty := New(sets, ways).Copy()
			checkList(t, empty)
			for b := range haveSets * haveWays {
				if !empty.Add(b) {
					t.Fatalf("New(%d, %d): its copy has less room", sets, ways)
				}
			}
		}
	}
	checkOrder(t, added(t, 1, 4, 5, 2, 9, 0).Copy(), []int{10, 11, 12, 13}, 5, 2, 9, 0)
}

// changes are what may be done with one of two that know nothing of each other.
func changes() []func(*Lines) {
	return []func(*Lines){
		func(l *Lines) {},
		func(l *Lines) { l.Use(6) },
		func(l *Lines) { l.Use(2); l.Use(6) },
		func(l *Lines) { l.Add(8) },
		func(l *Lines) { l.Add(1); l.Add(8) },
		func(l *Lines) { l.Remove(6) },
		func(l *Lines) { l.Remove(4); l.Add(10) },
		func(l *Lines) { l.Remove(2); l.Remove(4); l.Remove(6); l.Remove(3) },
		func(l *Lines) { l.Remove(3); l.Add(5); l.Add(7); l.Use(5) },
	}
}

// P8.1: neither of both knows what becomes of the other, whichever is changed, and first.
func TestCopiesKnowNothingOfEachOther(t *testing.T) {
	start := func(change func(*Lines)) *Lines {
		l := added(t, 2, 4, 6, 3, 2, 4)
		change(l)
		return l
	}
	nothing := changes()[0]
	for _, one := range changes() {
		for _, two := range changes() {
			l := start(nothing)
			c := l.Copy()
			one(l)
			two(c)
			checkSame(t, l, start(one))
			checkSame(t, c, start(two))
			l = start(nothing)
			c = l.Copy()
			two(c)
			one(l)
			checkSame(t, l, start(one))
			checkSame(t, c, start(two))
		}
	}
}

// checkSame tells where two with two sets of four lines aren't alike; it changes both.
func checkSame(t *testing.T, got, want *Lines) {
	t.Helper()
	checkList(t, got, want.List()...)
	for block := 100; block < 108; block++ {
		next, ok := want.Victim(block, -1)
		checkVictim(t, got, block, -1, next, ok)
		for _, l := range []*Lines{got, want} {
			l.Remove(next)
			l.Add(block)
		}
		checkList(t, got, want.List()...)
	}
}

// plain is the promises' meaning: when each line was used.
type plain struct {
	sets, ways, now int
	used            map[int]int
}

func (p *plain) full(block int) bool {
	count := 0
	for b := range p.used {
		if b%p.sets == block%p.sets {
			count++
		}
	}
	return count == p.ways
}

func (p *plain) call(kind, block int) bool {
	_, has := p.used[block]
	p.now++
	switch {
	case kind == 0 && block >= 0 && !has && !p.full(block):
		p.used[block] = p.now
		return true
	case kind == 1 && has:
		p.used[block] = p.now
		return true
	case kind == 2 && has:
		delete(p.used, block)
		return true
	}
	return false
}

func (p *plain) victim(block, pinned int) (int, bool) {
	if block < 0 {
		return -1, false
	}
	if _, has := p.used[block]; has || !p.full(block) {
		return -1, true
	}
	first := -1
	for b, when := range p.used {
		if b%p.sets == block%p.sets && b != pinned && (first < 0 || when < p.used[first]) {
			first = b
		}
	}
	return first, first >= 0
}

// both makes one call, Add, Use or Remove, of lines and of their meaning.
func both(t *testing.T, l *Lines, p *plain, kind, block int) {
	t.Helper()
	calls := []func(int) bool{l.Add, l.Use, l.Remove}
	if got, want := calls[kind](block), p.call(kind, block); got != want {
		t.Fatalf("call %d of %d = %t, not %t, with %v", kind, block, got, want, p.used)
	}
}

// checkPlain tells where lines aren't what they mean, for blocks from -2 up to the most.
func checkPlain(t *testing.T, l *Lines, p *plain, most int) {
	t.Helper()
	var all []int
	for b := -2; b <= most; b++ {
		_, has := p.used[b]
		if has {
			all = append(all, b)
		}
		if l.Has(b) != has {
			t.Fatalf("Has(%d) = %t, with %v", b, !has, p.used)
		}
		for pinned := -2; pinned <= most; pinned++ {
			want, ok := p.victim(b, pinned)
			checkVictim(t, l, b, pinned, want, ok)
		}
	}
	checkList(t, l, all...)
}

// P8.1, P8.2: all orders of five calls, of few sets and ways.
func TestAllOrders(t *testing.T) {
	const blocks, calls = 3, 5
	for _, size := range [][2]int{{1, 1}, {1, 2}, {2, 1}, {1, 3}} {
		var order [calls]int
		for {
			l, p := New(size[0], size[1]), &plain{sets: size[0], ways: size[1], used: map[int]int{}}
			for _, c := range order {
				both(t, l, p, c/blocks, c%blocks)
			}
			checkPlain(t, l, p, blocks)
			at := 0
			for ; at < calls; at++ {
				order[at] = (order[at] + 1) % (3 * blocks)
				if order[at] != 0 {
					break
				}
			}
			if at == calls {
				break
			}
		}
	}
}

// P8.1, P8.2: long orders of calls, of many sizes.
func TestLongOrders(t *testing.T) {
	random := rand.New(rand.NewSource(88))
	for range 60 {
		sets, ways := 1+random.Intn(5), 1+random.Intn(5)
		most := sets*ways + 3
		l, p := New(sets, ways), &plain{sets: sets, ways: ways, used: map[int]int{}}
		for range 120 {
			// Added and used more often than removed, so that sets get full.
			kind := []int{0, 0, 1, 1, 2}[random.Intn(5)]
			both(t, l, p, kind, random.Intn(most+2)-1)
			checkPlain(t, l, p, most)
			if random.Intn(8) == 0 {
				l = l.Copy()
			}
		}
	}
}
