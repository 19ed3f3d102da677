package entry

import (
	"math"
	"slices"
	"testing"

	"jeton/api"
)

// plainConfig may be; it has another number of nodes than of blocks, and no other number equal to one of these.
func plainConfig() api.Config {
	return api.Config{Nodes: 3, Blocks: 5, Tokens: 7, Sets: 2, Ways: 2, Cap: 9, Wait: 4, Tries: 1, Policy: api.PTokenB}
}

// edges are numbers around which a wrong comparison, or a wrap-round, shows.
var edges = []int{
	math.MinInt, math.MinInt + 1, math.MinInt32 - 1, math.MinInt32, -64, -2, -1, 0, 1, 2, 3, 4, 5, 6, 7, 9,
	63, 64, 65, 65536, math.MaxInt32, math.MaxInt32 + 1, math.MaxInt - 1, math.MaxInt,
}

var values = []int64{
	math.MinInt64, math.MinInt64 + 1, math.MinInt32 - 1, -7, -1, 0, 1, 2, 7, math.MaxInt32 + 1, math.MaxInt64 - 1, math.MaxInt64,
}

// kinds are all that there are.
var kinds = []int{api.EOp, api.EDeliver, api.EDrop, api.ETick}

// noKinds are such that there aren't.
var noKinds = []int{math.MinInt, math.MinInt + 1, -4, -1, 0, 5, 6, 9, 64, math.MaxInt - 1, math.MaxInt}

// entryOf writes an entry as a script does.
func entryOf(kind, a, b, c, d int) api.Entry {
	return api.Entry{Kind: kind, A: a, B: b, C: c, D: d}
}

// checkLegal tells where Legal isn't what is wanted.
func checkLegal(t *testing.T, c api.Config, e api.Entry, want bool) {
	t.Helper()
	if got := Legal(c, e); got != want {
		t.Errorf("Legal(%+v, %+v) = %t", c, e, got)
	}
}

// P5.1: the chapter's example, and ordinary entries of each kind.
func TestLegalOfEachKind(t *testing.T) {
	rows := []struct {
		e    api.Entry
		want bool
	}{
		{entryOf(api.EOp, 0, 1, 1, 7), true},
		{entryOf(api.EOp, 0, 1, 0, 0), true},
		{entryOf(api.EOp, 2, 4, 1, -7), true},
		{entryOf(api.EOp, 0, 1, 2, 0), false},
		{entryOf(api.EOp, 3, 1, 1, 7), false},
		{entryOf(api.EOp, 0, 5, 1, 7), false},
		{entryOf(api.EOp, -1, 0, 0, 0), false},
		{entryOf(api.EOp, 0, -1, 0, 0), false},
		{entryOf(api.EDeliver, 0, 0, 0, 0), true},
		{entryOf(api.EDeliver, 99, 2, 3, 4), true},
		{entryOf(api.EDeliver, -1, 2, 3, 4), false},
		{entryOf(api.EDrop, 0, 0, 0, 0), true},
		{entryOf(api.EDrop, 99, 0, 0, 0), true},
		{entryOf(api.EDrop, -1, 0, 0, 0), false},
		{entryOf(api.ETick, 0, 0, 0, 0), true},
		{entryOf(api.ETick, -1, -9, 3, 4), true},
		{entryOf(9, 0, 0, 0, 0), false},
		{api.Entry{}, false},
	}
	for _, r := range rows {
		checkLegal(t, plainConfig(), r.e, r.want)
	}
}

// P5.1: an operation's node, its block and its C, each at its ends and beyond, with one another.
func TestLegalOps(t *testing.T) {
	nodes, blocks, sorts := []int{0, 1, 2}, []int{0, 1, 2, 3, 4}, []int{0, 1}
	for _, a := range edges {
		for _, b := range edges {
			for _, c := range edges {
				want := slices.Contains(nodes, a) && slices.Contains(blocks, b) && slices.Contains(sorts, c)
				checkLegal(t, plainConfig(), entryOf(api.EOp, a, b, c, 7), want)
			}
		}
	}
}

// P5.1: what is stored, and what stands beside a load, plays no part.
func TestLegalOpsOfAnyValue(t *testing.T) {
	for _, d := range edges {
		checkLegal(t, plainConfig(), entryOf(api.EOp, 1, 1, 0, d), true)
		checkLegal(t, plainConfig(), entryOf(api.EOp, 1, 1, 1, d), true)
		checkLegal(t, plainConfig(), entryOf(api.EOp, 1, 1, 2, d), false)
		checkLegal(t, plainConfig(), entryOf(api.EOp, 3, 1, 1, d), false)
	}
}

// P5.1: a place from 0 on, and whatever advice.
func TestLegalPlacesAndAdvice(t *testing.T) {
	for _, a := range edges {
		for _, b := range edges {
			for _, c := range edges {
				for _, d := range []int{math.MinInt, -1, 0, 7, math.MaxInt} {
					checkLegal(t, plainConfig(), entryOf(api.EDeliver, a, b, c, d), a > -1)
					checkLegal(t, plainConfig(), entryOf(api.EDrop, a, b, c, d), a > -1)
					checkLegal(t, plainConfig(), entryOf(api.ETick, a, b, c, d), true)
				}
			}
		}
	}
}

// P5.1: kinds that there aren't, with numbers that would be legal in any other.
func TestLegalNoKinds(t *testing.T) {
	for _, kind := range noKinds {
		for _, a := range edges {
			checkLegal(t, plainConfig(), entryOf(kind, a, 0, 0, 0), false)
			checkLegal(t, plainConfig(), entryOf(kind, 0, 1, 1, a), false)
		}
		checkLegal(t, api.Config{}, entryOf(kind, 0, 0, 0, 0), false)
	}
}

// P5.1: the greatest worlds, and the least, at their ends.
func TestLegalAtTheLimits(t *testing.T) {
	great := api.Config{Nodes: 64, Blocks: 64, Tokens: 65536, Sets: 64, Ways: 16, Cap: 65536, Wait: 64, Tries: 8, Policy: 2}
	least := api.Config{Nodes: 1, Blocks: 1, Tokens: 1, Sets: 1, Ways: 1, Cap: 1, Wait: 1}
	checkLegal(t, great, entryOf(api.EOp, 63, 63, 1, 7), true)
	checkLegal(t, great, entryOf(api.EOp, 64, 63, 1, 7), false)
	checkLegal(t, great, entryOf(api.EOp, 63, 64, 1, 7), false)
	checkLegal(t, least, entryOf(api.EOp, 0, 0, 1, 7), true)
	checkLegal(t, least, entryOf(api.EOp, 1, 0, 1, 7), false)
	checkLegal(t, least, entryOf(api.EOp, 0, 1, 1, 7), false)
	// more letters than may be on their way are the world's matter
	checkLegal(t, least, entryOf(api.EDeliver, 65536, 0, 0, 0), true)
	checkLegal(t, least, entryOf(api.EDrop, math.MaxInt, 0, 0, 0), true)
}

// P5.1: a configuration is taken as it is, such that may not be, too.
func TestLegalOfAnyConfig(t *testing.T) {
	for _, nodes := range edges {
		for _, blocks := range edges {
			c := api.Config{Nodes: nodes, Blocks: blocks}
			for _, a := range edges {
				checkLegal(t, c, entryOf(api.EOp, a, 0, 1, 7), a >= 0 && a < nodes && blocks >= 1)
				checkLegal(t, c, entryOf(api.EOp, 0, a, 0, 0), nodes >= 1 && a >= 0 && a < blocks)
				checkLegal(t, c, entryOf(api.EDeliver, a, 0, 0, 0), a >= 0)
				checkLegal(t, c, entryOf(api.EDrop, a, 0, 0, 0), a >= 0)
				checkLegal(t, c, entryOf(api.ETick, a, 0, 0, 0), true)
			}
		}
	}
}

// P5.1: of what else is in a configuration nothing is asked.
func TestLegalOfNoOtherNumber(t *testing.T) {
	for _, x := range edges {
		c := api.Config{Nodes: 3, Blocks: 5, Tokens: x, Sets: x, Ways: x, Cap: x, Wait: x, Tries: x, Policy: x}
		checkLegal(t, c, entryOf(api.EOp, 2, 4, 1, 7), true)
		checkLegal(t, c, entryOf(api.EOp, 3, 4, 1, 7), false)
		checkLegal(t, c, entryOf(api.EOp, 2, 5, 1, 7), false)
		checkLegal(t, c, entryOf(api.EDeliver, 8, 0, 0, 0), true)
		checkLegal(t, c, entryOf(api.EDrop, 8, 0, 0, 0), true)
		checkLegal(t, c, entryOf(api.ETick, 0, 0, 0, 0), true)
	}
}

// P5.1
func TestOp(t *testing.T) {
	rows := []struct {
		e    api.Entry
		want api.Op
	}{
		{entryOf(api.EOp, 0, 1, 1, 7), api.Op{Block: 1, Write: true, Value: 7}},
		{entryOf(api.EOp, 0, 1, 1, 0), api.Op{Block: 1, Write: true}},
		{entryOf(api.EOp, 0, 1, 1, -7), api.Op{Block: 1, Write: true, Value: -7}},
		{entryOf(api.EOp, 0, 1, 0, 7), api.Op{Block: 1}},
		{entryOf(api.EOp, 9, 1, 2, 7), api.Op{Block: 1}},
		{entryOf(api.EOp, 0, -1, -1, 7), api.Op{Block: -1}},
		{entryOf(api.EOp, 0, 3, 3, 7), api.Op{Block: 3}},
		{entryOf(9, 0, 3, 0, 5), api.Op{Block: 3}},
		{entryOf(9, 0, 3, 1, 5), api.Op{Block: 3, Write: true, Value: 5}},
		{api.Entry{}, api.Op{}},
	}
	for _, r := range rows {
		if got := Op(r.e); got != r.want {
			t.Errorf("Op(%+v) = %+v, want %+v", r.e, got, r.want)
		}
	}
}

// P5.1: Op of any entry, of whatever kind, legal or not.
func TestOpOfAnyEntry(t *testing.T) {
	for _, kind := range append(slices.Clone(kinds), noKinds...) {
		for _, x := range edges {
			for _, c := range edges {
				for _, d := range edges {
					want := api.Op{Block: x}
					if c == 1 {
						want = api.Op{Block: x, Write: true, Value: int64(d)}
					}
					if got := Op(entryOf(kind, -x, x, c, d)); got != want {
						t.Fatalf("Op of kind %d, B %d, C %d, D %d = %+v", kind, x, c, d, got)
					}
				}
			}
		}
	}
}

// P5.2
func TestMake(t *testing.T) {
	rows := []struct {
		node int
		op   api.Op
		want api.Entry
	}{
		{0, api.Op{Block: 1, Write: true, Value: 7}, entryOf(api.EOp, 0, 1, 1, 7)},
		{2, api.Op{Block: 1, Write: true, Value: -7}, entryOf(api.EOp, 2, 1, 1, -7)},
		{2, api.Op{Block: 4, Write: true}, entryOf(api.EOp, 2, 4, 1, 0)},
		{2, api.Op{Block: 4}, entryOf(api.EOp, 2, 4, 0, 0)},
		{1, api.Op{Block: 3, Value: 5}, entryOf(api.EOp, 1, 3, 0, 0)},
		{0, api.Op{}, entryOf(api.EOp, 0, 0, 0, 0)},
		// nodes and blocks that there aren't
		{-1, api.Op{Block: -2, Write: true, Value: 7}, entryOf(api.EOp, -1, -2, 1, 7)},
		{64, api.Op{Block: 65, Value: 7}, entryOf(api.EOp, 64, 65, 0, 0)},
		{math.MinInt, api.Op{Block: math.MaxInt, Write: true, Value: math.MinInt64}, entryOf(api.EOp, math.MinInt, math.MaxInt, 1, math.MinInt)},
		{math.MaxInt, api.Op{Block: math.MinInt, Write: true, Value: math.MaxInt64}, entryOf(api.EOp, math.MaxInt, math.MinInt, 1, math.MaxInt)},
	}
	for _, r := range rows {
		if got := Make(r.node, r.op); got != r.want {
			t.Errorf("Make(%d, %+v) = %+v, want %+v", r.node, r.op, got, r.want)
		}
	}
}

// everyOp calls f with loads, with a Value too, and stores, for any node and block.
func everyOp(f func(node int, op api.Op)) {
	for _, node := range edges {
		for _, block := range edges {
			for _, value := range values {
				f(node, api.Op{Block: block, Value: value})
				f(node, api.Op{Block: block, Write: true, Value: value})
			}
		}
	}
}

// P5.2: the words, of any node and operation.
func TestMakeOfAnyOp(t *testing.T) {
	everyOp(func(node int, op api.Op) {
		want := entryOf(api.EOp, node, op.Block, 0, 0)
		if op.Write {
			want.C, want.D = 1, int(op.Value)
		}
		if got := Make(node, op); got != want {
			t.Errorf("Make(%d, %+v) = %+v, want %+v", node, op, got, want)
		}
	})
}

// P5.2: Op of what is made is the operation, but for the Value of a load.
func TestOpOfMake(t *testing.T) {
	everyOp(func(node int, op api.Op) {
		want := op
		if !op.Write {
			want.Value = 0
		}
		if got := Op(Make(node, op)); got != want {
			t.Errorf("Op(Make(%d, %+v)) = %+v", node, op, got)
		}
	})
}

// P5.1, P5.2: what is made is legal just where there are the node and the block.
func TestLegalOfMake(t *testing.T) {
	everyOp(func(node int, op api.Op) {
		want := slices.Contains([]int{0, 1, 2}, node) && slices.Contains([]int{0, 1, 2, 3, 4}, op.Block)
		checkLegal(t, plainConfig(), Make(node, op), want)
	})
}
