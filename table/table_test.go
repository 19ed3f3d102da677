package table

import (
	"math"
	"math/rand"
	"slices"
	"testing"

	"jeton/api"
)

// edges are numbers, of blocks, nodes and requests, around which a wrong comparison, or a wrap-round, shows.
var edges = []int{
	math.MinInt, math.MinInt + 1, math.MinInt32 - 1, math.MinInt32, -65, -64, -2, -1,
	0, 1, 2, 3, 4, 63, 64, 65, math.MaxInt32, math.MaxInt32 + 1, math.MaxInt - 1, math.MaxInt,
}

// request is one of a block, for a node, with a number.
func request(block, node, seq int) api.Active {
	return api.Active{Block: block, Node: node, Seq: seq}
}

// holding has just these active, of a block one each.
func holding(t *testing.T, all ...api.Active) *Table {
	t.Helper()
	x := New()
	for _, a := range all {
		checkActivate(t, x, a, true)
	}
	return x
}

// checkActivate tells where Activate isn't what is wanted.
func checkActivate(t *testing.T, x *Table, a api.Active, want bool) {
	t.Helper()
	if got := x.Activate(a); got != want {
		t.Fatalf("Activate(%+v) = %t, with %+v", a, got, x.List())
	}
}

// checkAll tells where List, or Active, isn't what is wanted: these by rising blocks, and none of another block.
func checkAll(t *testing.T, x *Table, want ...api.Active) {
	t.Helper()
	if got := x.List(); !slices.Equal(got, want) {
		t.Fatalf("List() = %+v, not %+v", got, want)
	}
	there := map[int]api.Active{}
	for _, a := range want {
		there[a.Block] = a
		if got, ok := x.Active(a.Block); got != a || !ok {
			t.Fatalf("Active(%d) = %+v, %t, not %+v", a.Block, got, ok, a)
		}
	}
	for _, block := range edges {
		a, has := there[block]
		if got, ok := x.Active(block); got != a || ok != has {
			t.Fatalf("Active(%d) = %+v, %t, not %+v, %t", block, got, ok, a, has)
		}
	}
}

// P11.1: in a new one none is active, of any block, and nothing is over.
func TestNew(t *testing.T) {
	checkAll(t, New())
	for _, block := range edges {
		x := New()
		checkActivate(t, x, request(block, 0, 1), true)
		checkAll(t, x, request(block, 0, 1))
	}
}

// P11.1: what one of two new ones is told plays no part for the other one.
func TestNewOnesAreOnTheirOwn(t *testing.T) {
	a, b := New(), New()
	a.Activate(request(1, 2, 3))
	a.Deactivate(2, 9)
	checkAll(t, a, request(1, 2, 3))
	checkAll(t, b)
	checkActivate(t, b, request(1, 0, 1), true)
	checkActivate(t, b, request(2, 0, 1), true)
}

// P11.1: a Seq below 1 is refused, of any block and node, with or without others, and nothing is done.
func TestActivateBelowOne(t *testing.T) {
	for _, seq := range []int{math.MinInt, math.MinInt + 1, math.MinInt32 - 1, -65, -2, -1, 0} {
		x, y := New(), holding(t, request(3, 1, 5))
		y.Deactivate(4, 2)
		for _, block := range edges {
			for _, node := range []int{math.MinInt, -1, 0, 1, 64, math.MaxInt} {
				checkActivate(t, x, request(block, node, seq), false)
				checkActivate(t, y, request(block, node, seq), false)
			}
		}
		checkAll(t, x)
		checkAll(t, y, request(3, 1, 5))
		checkActivate(t, x, request(0, 0, 1), true)
	}
}

// P11.1: a Seq from 1 on is taken where there is nothing else, of any block and for any node, just as it is told.
func TestActivateFirst(t *testing.T) {
	for _, block := range edges {
		for _, node := range edges {
			for _, seq := range edges {
				if seq < 1 {
					continue
				}
				checkAll(t, holding(t, request(block, node, seq)), request(block, node, seq))
			}
		}
	}
}

// P11.1: a Seq that is not above the number up to which the block's requests are over is refused; one above it is taken.
func TestActivateOfWhatIsOver(t *testing.T) {
	for _, over := range []int{1, 2, 3, 7, math.MaxInt32, math.MaxInt - 1, math.MaxInt} {
		for _, block := range []int{math.MinInt, -1, 0, 3, math.MaxInt} {
			x := New()
			x.Deactivate(block, over)
			for _, seq := range []int{1, over/2 + 1, over - 1, over} {
				checkActivate(t, x, request(block, 2, seq), false)
			}
			checkAll(t, x)
			if over == math.MaxInt {
				continue
			}
			for _, seq := range []int{over + 1, math.MaxInt} {
				d := x.Copy()
				checkActivate(t, d, request(block, 2, seq), true)
				checkAll(t, d, request(block, 2, seq))
			}
		}
	}
}

// P11.1: a Seq that is not above the active one's is refused, for whichever node, and the active one stays; one above it takes its place.
func TestActivateBesideTheActiveOne(t *testing.T) {
	for _, had := range []int{1, 2, 5, math.MaxInt - 1, math.MaxInt} {
		for _, node := range []int{-1, 0, 1, 2, 3} {
			x := holding(t, request(1, 2, had))
			for _, seq := range []int{math.MinInt, -1, 0, 1, had/2 + 1, had - 1, had} {
				checkActivate(t, x, request(1, node, min(seq, had)), false)
				checkAll(t, x, request(1, 2, had))
			}
			if had == math.MaxInt {
				continue
			}
			for _, seq := range []int{had + 1, math.MaxInt} {
				d := x.Copy()
				checkActivate(t, d, request(1, node, seq), true)
				checkAll(t, d, request(1, node, seq))
				// The one before isn't there to come back.
				checkActivate(t, d, request(1, 2, had), false)
				d.Deactivate(1, had)
				checkAll(t, d, request(1, node, seq))
			}
		}
	}
}

// P11.1: the one that was replaced doesn't come back when the one in its place is over.
func TestReplacedStaysAway(t *testing.T) {
	x := holding(t, request(1, 2, 3))
	checkActivate(t, x, request(1, 4, 6), true)
	x.Deactivate(1, 6)
	checkAll(t, x)
	for seq := range 7 {
		checkActivate(t, x, request(1, 2, seq), false)
	}
	checkAll(t, x)
	checkActivate(t, x, request(1, 2, 7), true)
}

// P11.1: the active one ends by its own number and each greater one, and stays with each lower one.
func TestDeactivate(t *testing.T) {
	for _, had := range []int{1, 2, 5, math.MaxInt} {
		for _, seq := range append([]int{had - 1, had, had/2 + 1}, edges...) {
			x := holding(t, request(3, 1, had), request(4, 0, 1))
			x.Deactivate(3, seq)
			if seq < had {
				checkAll(t, x, request(3, 1, had), request(4, 0, 1))
			} else {
				checkAll(t, x, request(4, 0, 1))
			}
			checkActivate(t, x, request(3, 1, had), false)
			x.Deactivate(3, had)
			checkAll(t, x, request(4, 0, 1))
		}
	}
}

// P11.1: what is over below the active one stays over, and so does all up to the active one's number, when that is over.
func TestDeactivateBelowTheActiveOne(t *testing.T) {
	x := holding(t, request(3, 1, 9))
	x.Deactivate(3, 4)
	checkAll(t, x, request(3, 1, 9))
	for seq := 1; seq <= 9; seq++ {
		checkActivate(t, x, request(3, 2, seq), false)
	}
	x.Deactivate(3, 9)
	for seq := 1; seq <= 9; seq++ {
		checkActivate(t, x, request(3, 2, seq), false)
	}
	checkAll(t, x)
	checkActivate(t, x, request(3, 2, 10), true)
	checkAll(t, x, request(3, 2, 10))
}

// P11.1: a lower number than before changes nothing, with an active one or without.
func TestDeactivateLower(t *testing.T) {
	for _, lower := range []int{math.MinInt, -7, -1, 0, 1, 2, 5, 6, 7} {
		x := New()
		x.Deactivate(3, 7)
		x.Deactivate(3, lower)
		for seq := 1; seq <= 7; seq++ {
			checkActivate(t, x, request(3, 0, seq), false)
		}
		checkAll(t, x)
		checkActivate(t, x, request(3, 0, 8), true)
		x.Deactivate(3, lower)
		checkAll(t, x, request(3, 0, 8))
		x.Deactivate(3, 8)
		x.Deactivate(3, lower)
		checkActivate(t, x, request(3, 0, 8), false)
		checkAll(t, x)
	}
}

// P11.1: a number below 1 ends nothing, and doesn't let in what may not be active.
func TestDeactivateBelowOne(t *testing.T) {
	for _, seq := range []int{math.MinInt, math.MinInt + 1, -65, -2, -1, 0} {
		x := holding(t, request(1, 2, 1))
		for _, block := range edges {
			x.Deactivate(block, seq)
			for _, low := range []int{seq, seq + 1, -1, 0} {
				checkActivate(t, x, request(block, 2, min(low, 0)), false)
			}
		}
		checkAll(t, x, request(1, 2, 1))
		checkActivate(t, x, request(2, 2, 1), true)
		checkAll(t, x, request(1, 2, 1), request(2, 2, 1))
	}
}

// P11.1: of a block that there was no request of, all up to the number are over, and no other block's.
func TestDeactivateOfAnUnknownBlock(t *testing.T) {
	for _, block := range edges {
		x := New()
		x.Deactivate(block, 5)
		checkAll(t, x)
		for _, other := range edges {
			checkActivate(t, x, request(other, 1, 5), other != block)
		}
		checkActivate(t, x, request(block, 1, 6), true)
	}
}

// P11.1: blocks of any number stand each for itself: what is told of one plays no part for another one.
func TestBlocksAreOnTheirOwn(t *testing.T) {
	var all []api.Active
	x := New()
	for at, block := range edges {
		a := request(block, at, 2*at+1)
		checkActivate(t, x, a, true)
		all = append(all, a)
		checkAll(t, x, all...)
	}
	for at, block := range edges {
		rest := slices.Delete(slices.Clone(all), at, at+1)
		d := x.Copy()
		d.Deactivate(block, math.MaxInt)
		checkAll(t, d, rest...)
		checkActivate(t, d, request(block, 0, math.MaxInt), false)
		for _, a := range rest {
			checkActivate(t, d, a, false)
			checkActivate(t, d, request(a.Block, 7, a.Seq+1), true)
		}
	}
	checkAll(t, x, all...)
}

// P11.1: Active of a block without an active one is the zero one and false: one that never was, was refused, or is over.
func TestActiveOfNone(t *testing.T) {
	for _, block := range edges {
		x := New()
		want := func(when string) {
			t.Helper()
			if a, ok := x.Active(block); a != (api.Active{}) || ok {
				t.Fatalf("%s: Active(%d) = %+v, %t", when, block, a, ok)
			}
		}
		want("at first")
		x.Activate(request(block, 2, 0))
		want("refused")
		x.Activate(request(block, 2, 4))
		x.Deactivate(block, 4)
		want("over")
		x.Activate(request(block, 2, 3))
		want("stale")
	}
}

// P11.1: asking changes nothing, and tells the same again.
func TestAsksChangeNothing(t *testing.T) {
	x := holding(t, request(-1, 2, 3), request(5, 0, 1))
	x.Deactivate(7, 2)
	for range 3 {
		checkAll(t, x, request(-1, 2, 3), request(5, 0, 1))
	}
	// A block that was asked for isn't one that is known, or over.
	for _, block := range []int{0, 6, math.MinInt} {
		checkActivate(t, x, request(block, 0, 1), true)
	}
	checkActivate(t, x, request(7, 0, 2), false)
}

// P11.1: List is by rising blocks, whatever the order in which they came, and whatever their nodes and numbers.
func TestListIsByRisingBlocks(t *testing.T) {
	random := rand.New(rand.NewSource(11))
	for range 300 {
		x := New()
		var all, rest []api.Active
		for at, block := range edges {
			all = append(all, request(block, len(edges)-at, random.Intn(90)+1))
		}
		for _, at := range random.Perm(len(all)) {
			checkActivate(t, x, all[at], true)
		}
		checkAll(t, x, all...)
		for at, a := range all {
			switch random.Intn(3) {
			case 0:
				x.Deactivate(a.Block, a.Seq)
			case 1:
				a = request(a.Block, at, a.Seq+1)
				checkActivate(t, x, a, true)
				rest = append(rest, a)
			default:
				rest = append(rest, a)
			}
		}
		checkAll(t, x, rest...)
	}
}

// P11.1: List of none has no elements, at first and when all are over.
func TestListOfNone(t *testing.T) {
	x := New()
	if got := x.List(); len(got) != 0 {
		t.Errorf("List() = %+v", got)
	}
	for block := range 3 {
		x.Activate(request(block, 1, block+1))
		x.Deactivate(block, block+1)
	}
	if got := x.List(); len(got) != 0 {
		t.Errorf("List() = %+v, and all are over", got)
	}
}

// P11.1: what List gave is the caller's own, its spare room too, and no later call is to be seen in it.
func TestListIsTheCallers(t *testing.T) {
	has := []api.Active{request(-4, 1, 2), request(0, 3, 5), request(6, 0, 1)}
	x := holding(t, has...)
	first, second := x.List(), x.List()
	spare := first[:cap(first)]
	for at := range spare {
		spare[at] = request(6, 9, 99)
	}
	for range 20 {
		first = append(first, request(6, 9, 99))
	}
	checkAll(t, x, has...)
	if !slices.Equal(second, has) {
		t.Errorf("what one caller changed is with another one: %+v", second)
	}
	x.Deactivate(0, 5)
	x.Activate(request(6, 4, 2))
	x.Activate(request(-9, 4, 2))
	if !slices.Equal(second, has) {
		t.Errorf("what was told is %+v now", second)
	}
	checkAll(t, x, request(-9, 4, 2), request(-4, 1, 2), request(6, 4, 2))
}

// P11.1: a copy knows what is active, and what is over, too.
func TestCopyIsLikeIt(t *testing.T) {
	x := holding(t, request(-2, 1, 4), request(3, 0, 9))
	x.Deactivate(3, 6)
	x.Deactivate(5, 2)
	x.Activate(request(8, 1, 3))
	x.Deactivate(8, 3)
	for _, d := range []*Table{x.Copy(), x.Copy().Copy()} {
		checkAll(t, d, request(-2, 1, 4), request(3, 0, 9))
		checkActivate(t, d, request(-2, 1, 4), false)
		checkActivate(t, d, request(3, 1, 6), false)
		checkActivate(t, d, request(5, 1, 2), false)
		checkActivate(t, d, request(8, 1, 3), false)
		checkAll(t, d, request(-2, 1, 4), request(3, 0, 9))
		checkActivate(t, d, request(5, 1, 3), true)
		checkActivate(t, d, request(8, 1, 4), true)
	}
	checkAll(t, New().Copy())
	checkActivate(t, New().Copy(), request(0, 0, 1), true)
}

// P11.1: neither a copy nor what it was made of knows what becomes of the other one: of what is active, and of what is over.
func TestCopiesKnowNothingOfEachOther(t *testing.T) {
	changes := []func(*Table){
		func(x *Table) {},
		func(x *Table) { x.Activate(request(1, 5, 8)) },
		func(x *Table) { x.Activate(request(0, 5, 1)) },
		func(x *Table) { x.Activate(request(2, 5, 4)) },
		func(x *Table) { x.Deactivate(1, 6) },
		func(x *Table) { x.Deactivate(1, 7) },
		func(x *Table) { x.Deactivate(2, 9) },
		func(x *Table) { x.Deactivate(0, 2) },
		func(x *Table) { x.Deactivate(1, 9); x.Activate(request(1, 6, 10)); x.Deactivate(1, 12) },
		func(x *Table) { x.List()[0] = request(1, 9, 9) },
	}
	start := func(change func(*Table)) *Table {
		x := holding(t, request(1, 2, 7))
		x.Deactivate(2, 3)
		change(x)
		return x
	}
	for _, one := range changes {
		for _, two := range changes {
			x := start(changes[0])
			d := x.Copy()
			one(x)
			two(d)
			checkSame(t, x, start(one))
			checkSame(t, d, start(two))
			// The other one first; and a copy's copy outlives both.
			x = start(changes[0])
			d = x.Copy()
			e := d.Copy()
			two(d)
			one(x)
			checkSame(t, x, start(one))
			checkSame(t, d, start(two))
			checkSame(t, e, start(changes[0]))
		}
	}
}

// checkSame tells where two aren't alike in the blocks 0 to 3, in what is active and what may become so up to 20; it changes both.
func checkSame(t *testing.T, got, want *Table) {
	t.Helper()
	checkAll(t, got, want.List()...)
	for block := range 4 {
		for seq := range 20 {
			a := request(block, 3, seq)
			checkActivate(t, got, a, want.Activate(a))
			checkAll(t, got, want.List()...)
		}
	}
}

// call is an Activate, or a Deactivate of its Block and Seq.
type call struct {
	activate bool
	of       api.Active
}

// meaning is the promises' plain meaning: all that was told, by blocks.
type meaning struct {
	over   map[int][]int
	active []api.Active
}

// may tells whether a request becomes active, as P11.1 says it.
func (m *meaning) may(a api.Active) bool {
	for _, seq := range m.over[a.Block] {
		if a.Seq <= seq {
			return false
		}
	}
	for _, b := range m.active {
		if b.Block == a.Block && a.Seq <= b.Seq {
			return false
		}
	}
	return a.Seq >= 1
}

// both has a call done by a Table and by its meaning; it tells where they differ.
func (c call) both(t *testing.T, x *Table, m *meaning) {
	t.Helper()
	if c.activate {
		may := m.may(c.of)
		checkActivate(t, x, c.of, may)
		if may {
			m.drop(c.of.Block, math.MaxInt)
			m.active = append(m.active, c.of)
			slices.SortFunc(m.active, func(a, b api.Active) int { return a.Block - b.Block })
		}
	} else {
		x.Deactivate(c.of.Block, c.of.Seq)
		m.over[c.of.Block] = append(m.over[c.of.Block], c.of.Seq)
		m.drop(c.of.Block, c.of.Seq)
	}
	checkAll(t, x, m.active...)
}

// drop ends what is active of a block up to a number.
func (m *meaning) drop(block, seq int) {
	m.active = slices.DeleteFunc(m.active, func(a api.Active) bool { return a.Block == block && a.Seq <= seq })
}

// P11.1: all orders of five calls, from each point of them on a copy, are as the promises say.
func TestAllOrders(t *testing.T) {
	var calls []call
	for seq := range 4 {
		calls = append(calls, call{true, request(-1, seq%2, seq)}, call{false, request(-1, 0, seq)})
	}
	calls = append(calls, call{true, request(0, 1, 2)}, call{false, request(0, 1, 1)}, call{false, request(0, 1, 2)})
	var follow func(x *Table, before []call)
	follow = func(x *Table, before []call) {
		if len(before) == 5 {
			return
		}
		for _, c := range calls {
			m := &meaning{over: map[int][]int{}}
			again := New()
			for _, b := range before {
				b.both(t, again, m)
			}
			d := x.Copy()
			c.both(t, d, m)
			follow(d, append(slices.Clip(before), c))
		}
	}
	follow(New(), nil)
}

// P11.1: long orders of calls, of few blocks, are as the promises say.
func TestLongOrders(t *testing.T) {
	random := rand.New(rand.NewSource(111))
	for range 40 {
		x, m := New(), &meaning{over: map[int][]int{}}
		for step := range 300 {
			// Numbers rise with time, so that there is always something new, and something old.
			a := request(random.Intn(5)-2, random.Intn(4), step/4+random.Intn(9)-6)
			call{random.Intn(3) > 0, a}.both(t, x, m)
			if random.Intn(20) == 0 {
				x = x.Copy()
			}
		}
	}
}

// last is what is active of a block when all of some calls are done, in whatever order: the request with the greatest number, unless that is over.
func last(calls []call, block int) (api.Active, bool) {
	over, best := 0, api.Active{}
	for _, c := range calls {
		if c.of.Block != block {
			continue
		}
		if !c.activate {
			over = max(over, c.of.Seq)
		} else if c.of.Seq > best.Seq {
			best = c.of
		}
	}
	if best.Seq <= over {
		return api.Active{}, false
	}
	return best, true
}

// checkLast does calls in an order; it tells where what is over is active, ever again, and where at the end another one is than the last.
func checkLast(t *testing.T, calls []call, order []int) {
	t.Helper()
	x, over := New(), map[int]int{}
	for _, at := range order {
		c := calls[at]
		if c.activate {
			if x.Activate(c.of) && c.of.Seq <= over[c.of.Block] {
				t.Fatalf("%v of %+v: %+v is over, and taken", order, calls, c.of)
			}
		} else {
			x.Deactivate(c.of.Block, c.of.Seq)
			over[c.of.Block] = max(over[c.of.Block], c.of.Seq)
		}
		for _, a := range x.List() {
			if a.Seq <= over[a.Block] {
				t.Fatalf("%v of %+v: %+v is over, and active", order, calls, a)
			}
		}
	}
	for block := -1; block < 3; block++ {
		want, has := last(calls, block)
		if got, ok := x.Active(block); got != want || ok != has {
			t.Fatalf("%v of %+v: Active(%d) = %+v, %t, not %+v, %t", order, calls, block, got, ok, want, has)
		}
	}
}

// P11.2: over all orders of the letters of some requests, what is over never becomes active, and of several the one with the greatest number is.
func TestLettersInAnyOrder(t *testing.T) {
	for _, calls := range [][]call{
		// All that began is over but the last one.
		{{true, request(1, 0, 1)}, {false, request(1, 0, 1)}, {true, request(1, 2, 2)}, {false, request(1, 0, 2)}, {true, request(1, 1, 3)}},
		// All is over.
		{{true, request(1, 0, 1)}, {false, request(1, 0, 1)}, {true, request(1, 2, 2)}, {false, request(1, 0, 2)}, {true, request(1, 1, 3)}, {false, request(1, 0, 3)}},
		// None is over.
		{{true, request(1, 0, 1)}, {true, request(1, 2, 2)}, {true, request(1, 1, 3)}, {true, request(1, 0, 4)}, {true, request(1, 3, 7)}},
		// An end that was lost on its way: a later one ends those before.
		{{true, request(0, 0, 1)}, {true, request(0, 2, 2)}, {false, request(0, 0, 2)}, {true, request(0, 2, 3)}, {true, request(1, 0, 1)}, {false, request(1, 0, 1)}},
		// The same letter twice, and others of blocks beside it.
		{{true, request(2, 1, 2)}, {true, request(2, 1, 2)}, {false, request(2, 0, 1)}, {false, request(2, 0, 1)}, {true, request(-1, 1, 1)}, {false, request(-1, 1, 2)}},
	} {
		var follow func(order []int)
		follow = func(order []int) {
			if len(order) == len(calls) {
				checkLast(t, calls, order)
			}
			for at := range calls {
				if !slices.Contains(order, at) {
					follow(append(slices.Clip(order), at))
				}
			}
		}
		follow(nil)
	}
}

// P11.2: the same holds of many letters, in orders by chance, where a request has the same node in each of its letters.
func TestManyLettersInAnyOrder(t *testing.T) {
	random := rand.New(rand.NewSource(112))
	for range 200 {
		var calls []call
		for range random.Intn(60) {
			seq := random.Intn(14) - 1
			calls = append(calls, call{random.Intn(2) == 0, request(random.Intn(4)-1, seq*seq, seq)})
		}
		for range 10 {
			checkLast(t, calls, random.Perm(len(calls)))
		}
	}
}

// The chapter's example.
func TestExample(t *testing.T) {
	x := New()
	x.Deactivate(3, 2)
	checkActivate(t, x, request(3, 0, 2), false)
	checkActivate(t, x, request(3, 0, 3), true)
	checkAll(t, x, request(3, 0, 3))
}

// P11.1: no call panics, and each ends, whatever numbers it is handed.
func TestCallsEndWhateverTheyAreHanded(t *testing.T) {
	x := New()
	for _, block := range edges {
		for _, seq := range edges {
			for _, node := range edges {
				x.Activate(request(block, node, seq))
			}
			x.Active(block)
			x.Deactivate(block, seq)
			x.List()
			x = x.Copy()
		}
	}
	checkAll(t, x)
}
