package arbiter

import (
	"math"
	"math/rand"
	"reflect"
	"slices"
	"testing"

	"jeton/api"
)

// none is told where there is no request.
var none = api.Active{}

// sizes are what New may be handed, and how many there are then.
var sizes = []struct{ asked, have int }{
	{math.MinInt, 0}, {math.MinInt32 - 1, 0}, {-65, 0}, {-64, 0}, {-2, 0}, {-1, 0},
	{0, 0}, {1, 1}, {2, 2}, {3, 3}, {31, 31}, {63, 63}, {64, 64},
	{65, 64}, {66, 64}, {128, 64}, {65536, 64}, {math.MaxInt32 + 1, 64}, {math.MaxInt, 64},
}

// outside are numbers of nothing where there are so many, from 0 on.
func outside(count int) []int {
	return []int{
		math.MinInt, math.MinInt + 1, math.MinInt32 - 1, -65, -64, -count - 1, -count - 64, -2, -1,
		count, count + 1, 2*count + 64, 1 << 32, math.MaxInt32, math.MaxInt - 1, math.MaxInt,
	}
}

// otherSeqs are numbers but that one.
func otherSeqs(seq int) []int {
	all := []int{
		math.MinInt, math.MinInt + 1, math.MinInt32, -2, -1, 0, 1, 2, 3, seq - 2, seq - 1, seq + 1, seq + 2,
		-seq, seq + 64, seq + 1<<32, math.MaxInt32, math.MaxInt - 1, math.MaxInt,
	}
	return slices.DeleteFunc(all, func(other int) bool { return other == seq })
}

// request is one of a block, for a node, with a number.
func request(block, node, seq int) api.Active {
	return api.Active{Block: block, Node: node, Seq: seq}
}

// checkAsk tells where Ask isn't what is wanted: a request and true, or none and false.
func checkAsk(t *testing.T, a *Arbiter, block, node int, want api.Active) {
	t.Helper()
	if got, ok := a.Ask(block, node); got != want || ok != (want != none) {
		t.Fatalf("Ask(%d, %d) = %+v, %t, not %+v", block, node, got, ok, want)
	}
}

// checkDone tells where Done isn't what is wanted.
func checkDone(t *testing.T, a *Arbiter, block, seq int, want bool) {
	t.Helper()
	if got := a.Done(block, seq); got != want {
		t.Fatalf("Done(%d, %d) = %t", block, seq, got)
	}
}

// checkAck tells where Ack isn't what is wanted: a request and true, or none and false.
func checkAck(t *testing.T, a *Arbiter, block, seq, node int, want api.Active) {
	t.Helper()
	if got, ok := a.Ack(block, seq, node); got != want || ok != (want != none) {
		t.Fatalf("Ack(%d, %d, %d) = %+v, %t, not %+v", block, seq, node, got, ok, want)
	}
}

// checkBlock tells where Current, or Waiting, of a block isn't what is wanted.
func checkBlock(t *testing.T, a *Arbiter, block int, current api.Active, waiting ...int) {
	t.Helper()
	if got, ok := a.Current(block); got != current || ok != (current != none) {
		t.Fatalf("Current(%d) = %+v, %t, not %+v", block, got, ok, current)
	}
	if got := a.Waiting(block); !slices.Equal(got, waiting) {
		t.Fatalf("Waiting(%d) = %v, not %v", block, got, waiting)
	}
}

// checkEnd ends the active request of a block, of so many nodes; it tells where what becomes active with that isn't what is wanted.
func checkEnd(t *testing.T, a *Arbiter, block, seq, nodes int, want api.Active) {
	t.Helper()
	checkDone(t, a, block, seq, true)
	for node := range nodes - 1 {
		checkAck(t, a, block, seq, node, none)
	}
	checkAck(t, a, block, seq, nodes-1, want)
}

// atRest, running and closing are of three nodes and two blocks. Of block 1 the fifth request, of node 2, is over, or active, or ending and known to node 1; 0, 2 and 0 wait, but in the first.
func atRest(t *testing.T) *Arbiter {
	t.Helper()
	a := New(3, 2)
	for seq := 1; seq < 6; seq++ {
		checkAsk(t, a, 1, 2, request(1, 2, seq))
		checkEnd(t, a, 1, seq, 3, none)
	}
	return a
}

func running(t *testing.T) *Arbiter {
	t.Helper()
	a := New(3, 2)
	for seq := 1; seq < 5; seq++ {
		checkAsk(t, a, 1, 1, request(1, 1, seq))
		checkEnd(t, a, 1, seq, 3, none)
	}
	checkAsk(t, a, 1, 2, request(1, 2, 5))
	for _, node := range []int{0, 2, 0} {
		checkAsk(t, a, 1, node, none)
	}
	return a
}

func closing(t *testing.T) *Arbiter {
	t.Helper()
	a := running(t)
	checkDone(t, a, 1, 5, true)
	checkAck(t, a, 1, 5, 1, none)
	return a
}

// starts are these three by their names.
var starts = map[string]func(*testing.T) *Arbiter{"at rest": atRest, "active": running, "ending": closing}

// checkSame tells where two, of three nodes and two blocks, aren't alike, in what is to be seen and in what comes of ending all of it; it changes both.
func checkSame(t *testing.T, got, want *Arbiter) {
	t.Helper()
	for block := range 2 {
		current, _ := want.Current(block)
		checkBlock(t, got, block, current, want.Waiting(block)...)
	}
	for block := range 2 {
		for seq := range 14 {
			checkDone(t, got, block, seq, want.Done(block, seq))
			for node := range 3 {
				next, _ := want.Ack(block, seq, node)
				checkAck(t, got, block, seq, node, next)
				current, _ := want.Current(block)
				checkBlock(t, got, block, current, want.Waiting(block)...)
			}
		}
		next, _ := want.Ask(block, 1)
		if next == none {
			t.Fatalf("block %d isn't at rest when all is ended", block)
		}
		checkAsk(t, got, block, 1, next)
	}
}

// The chapter's example.
func TestExample(t *testing.T) {
	a := New(1, 1)
	checkAsk(t, a, 0, 0, request(0, 0, 1))
	checkAsk(t, a, 0, 0, none)
	checkDone(t, a, 0, 1, true)
	checkAck(t, a, 0, 1, 0, request(0, 0, 2))
}

// P12.1: the face is what the chapter lists.
func TestFace(t *testing.T) {
	face := reflect.TypeOf(New(1, 1))
	var names []string
	for i := range face.NumMethod() {
		names = append(names, face.Method(i).Name)
	}
	if want := []string{"Ack", "Ask", "Copy", "Current", "Done", "Waiting"}; !slices.Equal(names, want) {
		t.Errorf("an Arbiter has %v, not %v", names, want)
	}
}

// P12.1: a new one has as many nodes and blocks as are asked for, within 0 to 64, and all are at rest.
func TestNew(t *testing.T) {
	for _, nodes := range sizes {
		for _, blocks := range sizes {
			a := New(nodes.asked, blocks.asked)
			for block := range blocks.have {
				checkBlock(t, a, block, none)
				for seq := -1; seq < 3; seq++ {
					checkDone(t, a, block, seq, false)
					for node := range nodes.have {
						checkAck(t, a, block, seq, node, none)
					}
				}
			}
			for _, block := range outside(blocks.have) {
				checkAsk(t, a, block, 0, none)
			}
			for _, node := range outside(nodes.have) {
				checkAsk(t, a, 0, node, none)
			}
			for block := range blocks.have {
				checkBlock(t, a, block, none)
				// Not till all nodes that there are know of its end is the block at rest.
				if node := nodes.have - 1; node >= 0 {
					checkAsk(t, a, block, node, request(block, node, 1))
					checkAsk(t, a, block, 0, none)
					checkEnd(t, a, block, 1, nodes.have, request(block, 0, 2))
				}
			}
		}
	}
}

// P12.1: each node from 0 to 63 may ask, and must know.
func TestEachNode(t *testing.T) {
	for nodes := 1; nodes <= 64; nodes++ {
		for node := range nodes {
			a := New(nodes, 1)
			checkAsk(t, a, 0, node, request(0, node, 1))
			checkAsk(t, a, 0, nodes-1-node, none)
			checkDone(t, a, 0, 1, true)
			for other := range nodes {
				if other != node {
					checkAck(t, a, 0, 1, other, none)
				}
			}
			checkBlock(t, a, 0, none, nodes-1-node)
			checkAck(t, a, 0, 1, node, request(0, nodes-1-node, 2))
		}
	}
}

// P12.1: of a block that there isn't nothing is done, and false, whatever the others are at.
func TestNoBlock(t *testing.T) {
	for name, start := range starts {
		a := start(t)
		for _, block := range outside(2) {
			for node := -1; node < 4; node++ {
				checkAsk(t, a, block, node, none)
				for _, seq := range []int{-1, 0, 1, 4, 5, 6} {
					checkDone(t, a, block, seq, false)
					checkAck(t, a, block, seq, node, none)
				}
			}
			checkBlock(t, a, block, none)
		}
		t.Log(name)
		checkSame(t, a, start(t))
	}
}

// P12.1: of a node that there isn't nothing is done, and false: it neither asks nor knows.
func TestNoNode(t *testing.T) {
	for name, start := range starts {
		a := start(t)
		for _, node := range outside(3) {
			for block := -1; block < 3; block++ {
				checkAsk(t, a, block, node, none)
				for _, seq := range []int{-1, 0, 1, 4, 5, 6} {
					checkAck(t, a, block, seq, node, none)
				}
			}
		}
		t.Log(name)
		checkSame(t, a, start(t))
	}
}

// P12.1: without nodes nobody asks; without blocks there is nothing to ask for.
func TestNothingThere(t *testing.T) {
	for _, a := range []*Arbiter{New(0, 0), New(0, 3), New(3, 0), New(-1, -1), New(0, 3).Copy(), New(3, 0).Copy()} {
		for block := -1; block < 4; block++ {
			for node := -1; node < 4; node++ {
				checkAsk(t, a, block, node, none)
				for seq := -1; seq < 3; seq++ {
					checkDone(t, a, block, seq, false)
					checkAck(t, a, block, seq, node, none)
				}
			}
			checkBlock(t, a, block, none)
		}
	}
}

// P12.2: who asks of a block at rest has the active request: its Block, its Node, and its Seq, one more than that of the last one.
func TestAskAtRest(t *testing.T) {
	for block := range 5 {
		a := New(4, 5)
		for seq := 1; seq < 40; seq++ {
			node := seq * seq % 4
			checkAsk(t, a, block, node, request(block, node, seq))
			checkBlock(t, a, block, request(block, node, seq))
			checkEnd(t, a, block, seq, 4, none)
			checkBlock(t, a, block, none)
		}
	}
}

// P12.2: who asks while a request is active, or ending, waits behind all others, though it waits already, or the request is its own.
func TestAskMeanwhile(t *testing.T) {
	for name, start := range map[string]func(*testing.T) *Arbiter{"active": running, "ending": closing} {
		a := start(t)
		current, has := a.Current(1)
		if has != (name == "active") {
			t.Fatalf("%s: Current = %+v, %t", name, current, has)
		}
		waiting := []int{0, 2, 0}
		for _, node := range []int{1, 1, 2, 0, 2, 2, 2, 1, 0, 0, 0} {
			checkAsk(t, a, 1, node, none)
			waiting = append(waiting, node)
			checkBlock(t, a, 1, current, waiting...)
			checkBlock(t, a, 0, none)
		}
		// What they asked plays no part in who knows of the end.
		a.Done(1, 5)
		checkAck(t, a, 1, 5, 0, none)
		checkAck(t, a, 1, 5, 1, none)
		checkAck(t, a, 1, 5, 2, request(1, 0, 6))
		checkBlock(t, a, 1, request(1, 0, 6), waiting[1:]...)
	}
}

// P12.2: Done of the active one's number: it is ending, once.
func TestDone(t *testing.T) {
	a := running(t)
	checkDone(t, a, 1, 5, true)
	checkBlock(t, a, 1, none, 0, 2, 0)
	for range 3 {
		checkDone(t, a, 1, 5, false)
		checkBlock(t, a, 1, none, 0, 2, 0)
	}
	checkAck(t, a, 1, 5, 0, none)
	checkDone(t, a, 1, 5, false)
	checkAck(t, a, 1, 5, 1, none)
	checkDone(t, a, 1, 5, false)
	checkAck(t, a, 1, 5, 2, request(1, 0, 6))
	checkDone(t, a, 1, 5, false)
	checkBlock(t, a, 1, request(1, 0, 6), 2, 0)
	checkDone(t, a, 1, 6, true)
}

// P12.2: Done of another number than the active one's, of a block at rest, or of one that is ending: false, and nothing.
func TestDoneOfNothing(t *testing.T) {
	for name, start := range starts {
		a := start(t)
		seqs := otherSeqs(5)
		if name != "active" {
			seqs = append(seqs, 5)
		}
		for _, seq := range seqs {
			checkDone(t, a, 1, seq, false)
			checkDone(t, a, 0, seq, false)
		}
		t.Log(name)
		checkSame(t, a, start(t))
	}
}

// P12.2: Ack of what isn't ending, by its number, does nothing: of a block at rest, of an active one, and of another number.
func TestAckOfNothing(t *testing.T) {
	for name, start := range starts {
		a := start(t)
		seqs := otherSeqs(5)
		if name != "ending" {
			seqs = append(seqs, 5)
		}
		for _, seq := range seqs {
			for node := range 3 {
				checkAck(t, a, 1, seq, node, none)
				checkAck(t, a, 0, seq, node, none)
			}
		}
		t.Log(name)
		checkSame(t, a, start(t))
	}
}

// P12.2: a node that knows it twice counts once.
func TestAckTwice(t *testing.T) {
	a := closing(t)
	for range 5 {
		checkAck(t, a, 1, 5, 1, none)
		checkBlock(t, a, 1, none, 0, 2, 0)
	}
	for range 5 {
		checkAck(t, a, 1, 5, 2, none)
		checkAck(t, a, 1, 5, 1, none)
		checkBlock(t, a, 1, none, 0, 2, 0)
	}
	checkAck(t, a, 1, 5, 0, request(1, 0, 6))
	for range 5 {
		checkAck(t, a, 1, 5, 0, none)
		checkBlock(t, a, 1, request(1, 0, 6), 2, 0)
	}
}

// orders are all orders of the numbers from 0 on, so many.
func orders(count int) [][]int {
	if count == 0 {
		return [][]int{nil}
	}
	var all [][]int
	for _, shorter := range orders(count - 1) {
		for at := range count {
			all = append(all, slices.Insert(slices.Clone(shorter), at, count-1))
		}
	}
	return all
}

// checkOrder has the end of block 0's request known in an order, and then those who wait one after the other; it tells where a block is at rest too early, or too late.
func checkOrder(t *testing.T, nodes int, order []int, waiting ...int) {
	t.Helper()
	a := New(nodes, 1)
	checkAsk(t, a, 0, nodes-1, request(0, nodes-1, 1))
	for _, node := range waiting {
		checkAsk(t, a, 0, node, none)
	}
	for at := range len(waiting) + 1 {
		seq, next := at+1, none
		checkDone(t, a, 0, seq, true)
		for _, node := range order[:nodes-1] {
			checkAck(t, a, 0, seq, node, none)
			checkBlock(t, a, 0, none, waiting[at:]...)
		}
		if at < len(waiting) {
			next = request(0, waiting[at], seq+1)
		}
		checkAck(t, a, 0, seq, order[nodes-1], next)
	}
	checkBlock(t, a, 0, none)
	// It is at rest, whoever was the last to know.
	checkAsk(t, a, 0, order[0], request(0, order[0], len(waiting)+2))
}

// P12.2: not till all nodes know it is the block at rest, in whatever order they do; then the first who waits has the active request; if nobody waits, who asks later.
func TestAckInAnyOrder(t *testing.T) {
	for nodes := 1; nodes < 7; nodes++ {
		for _, order := range orders(nodes) {
			checkOrder(t, nodes, order)
			checkOrder(t, nodes, order, nodes-1)
			checkOrder(t, nodes, order, 0, nodes-1, 0, nodes/2)
		}
	}
	random := rand.New(rand.NewSource(12))
	for _, nodes := range []int{7, 31, 32, 33, 63, 64} {
		for range 50 {
			checkOrder(t, nodes, random.Perm(nodes), random.Perm(nodes)...)
		}
	}
}

// P12.2: who knew of one request's end doesn't know of the next one's.
func TestWhoKnowsIsForgotten(t *testing.T) {
	a := New(2, 1)
	checkAsk(t, a, 0, 0, request(0, 0, 1))
	checkAsk(t, a, 0, 1, none)
	checkEnd(t, a, 0, 1, 2, request(0, 1, 2))
	checkDone(t, a, 0, 2, true)
	checkBlock(t, a, 0, none)
	checkAck(t, a, 0, 2, 1, none)
	checkAsk(t, a, 0, 1, none)
	checkAck(t, a, 0, 2, 1, none)
	checkAck(t, a, 0, 2, 0, request(0, 1, 3))
	// Nor after the block was at rest.
	checkEnd(t, a, 0, 3, 2, none)
	checkAsk(t, a, 0, 0, request(0, 0, 4))
	checkDone(t, a, 0, 4, true)
	checkAck(t, a, 0, 4, 1, none)
	checkAsk(t, a, 0, 0, none)
	checkAck(t, a, 0, 4, 0, request(0, 0, 5))
}

// P12.2: Current tells the active one, each time the same; of one that is ending, and at rest, it tells none.
func TestCurrent(t *testing.T) {
	wants := map[string]api.Active{"at rest": none, "active": request(1, 2, 5), "ending": none}
	for name, start := range starts {
		a := start(t)
		for range 3 {
			for block, want := range []api.Active{none, wants[name]} {
				if got, ok := a.Current(block); got != want || ok != (want != none) {
					t.Errorf("%s: Current(%d) = %+v, %t", name, block, got, ok)
				}
			}
		}
		checkSame(t, a, start(t))
	}
	// An active one whose numbers are all 0 but its Seq is one too.
	a := New(1, 1)
	a.Ask(0, 0)
	checkBlock(t, a, 0, request(0, 0, 1))
}

// P12.2: Waiting tells who waits, in the order in which they asked, without the one that became active.
func TestWaiting(t *testing.T) {
	a := New(3, 2)
	asked := []int{1, 0, 2, 2, 1, 0, 0, 1}
	for at, node := range asked {
		if _, ok := a.Ask(0, node); ok != (at == 0) {
			t.Fatalf("ask %d: %t", at, ok)
		}
		checkBlock(t, a, 0, request(0, 1, 1), asked[1:at+1]...)
	}
	for at, node := range asked {
		checkBlock(t, a, 0, request(0, node, at+1), asked[at+1:]...)
		next := none
		if at+1 < len(asked) {
			next = request(0, asked[at+1], at+2)
		}
		checkEnd(t, a, 0, at+1, 3, next)
	}
	checkBlock(t, a, 0, none)
	checkBlock(t, a, 1, none)
}

// P12.2: what Waiting gave is the caller's own, its spare room too, and no later call is to be seen in it.
func TestWaitingIsTheCallers(t *testing.T) {
	for name, start := range starts {
		a := start(t)
		first, second := a.Waiting(1), a.Waiting(1)
		had := slices.Clone(second)
		spare := first[:cap(first)]
		for at := range spare {
			spare[at] = 1
		}
		for range 20 {
			first = append(first, 1)
		}
		if !slices.Equal(second, had) {
			t.Errorf("%s: what one caller changed is with another one: %v", name, second)
		}
		spare = second[:cap(second)]
		for at := len(second); at < len(spare); at++ {
			spare[at] = 77
		}
		checkBlock(t, a, 0, none)
		checkSame(t, a, start(t))
		if !slices.Equal(second, had) {
			t.Errorf("%s: what was told is %v now, not %v", name, second, had)
		}
		for at := len(second); at < len(spare); at++ {
			if spare[at] != 77 {
				t.Errorf("%s: the spare room of what was told has %d now", name, spare[at])
			}
		}
	}
}

// P12.2: who asks behind those that were cut off, and behind what was told, overwrites nothing.
func TestWaitingGrows(t *testing.T) {
	a := New(2, 1)
	checkAsk(t, a, 0, 0, request(0, 0, 1))
	var waiting []int
	var told [][]int
	for step := 1; step < 200; step++ {
		for more := range step % 4 {
			checkAsk(t, a, 0, (step+more)%2, none)
			waiting = append(waiting, (step+more)%2)
		}
		told = append(told, slices.Clone(waiting), a.Waiting(0))
		if len(waiting) == 0 {
			checkAsk(t, a, 0, 1, none)
			waiting = append(waiting, 1)
		}
		current := request(0, waiting[0], step+1)
		checkEnd(t, a, 0, step, 2, current)
		waiting = waiting[1:]
		checkBlock(t, a, 0, current, waiting...)
	}
	for at := 0; at < len(told); at += 2 {
		if !slices.Equal(told[at], told[at+1]) {
			t.Fatalf("what was told is %v now, not %v", told[at+1], told[at])
		}
	}
}

// P12.2: what happens to one block's requests plays no part for another one's, and each counts its own numbers.
func TestBlocksEachForItself(t *testing.T) {
	a := New(2, 3)
	for seq := 1; seq < 5; seq++ {
		checkAsk(t, a, 2, 1, request(2, 1, seq))
		checkEnd(t, a, 2, seq, 2, none)
	}
	checkAsk(t, a, 0, 0, request(0, 0, 1))
	checkAsk(t, a, 2, 0, request(2, 0, 5))
	checkAsk(t, a, 1, 1, request(1, 1, 1))
	checkAsk(t, a, 1, 0, none)
	checkBlock(t, a, 0, request(0, 0, 1))
	checkBlock(t, a, 1, request(1, 1, 1), 0)
	checkBlock(t, a, 2, request(2, 0, 5))
	// The same number is active of two blocks: one of them ends.
	checkDone(t, a, 1, 1, true)
	checkAck(t, a, 0, 1, 0, none)
	checkAck(t, a, 0, 1, 1, none)
	checkBlock(t, a, 0, request(0, 0, 1))
	// Both end, and each node knows of one of them.
	checkDone(t, a, 0, 1, true)
	checkAck(t, a, 0, 1, 0, none)
	checkAck(t, a, 1, 1, 1, none)
	checkAck(t, a, 1, 1, 0, request(1, 0, 2))
	checkAsk(t, a, 0, 1, none)
	checkAck(t, a, 0, 1, 1, request(0, 1, 2))
	checkBlock(t, a, 2, request(2, 0, 5))
}

// P12.2: an arbiter of many blocks does of each what one of that block alone does.
func TestBlocksAlone(t *testing.T) {
	random := rand.New(rand.NewSource(121))
	for _, blocks := range []int{2, 5, 64} {
		all := New(2, blocks)
		alone, last := make([]*Arbiter, blocks), make([]int, blocks)
		for block := range alone {
			alone[block] = New(2, blocks)
		}
		for range 200 * blocks {
			block, seq, node := random.Intn(blocks), 1+random.Intn(12), random.Intn(2)
			one := alone[block]
			if random.Intn(4) > 0 {
				seq = last[block]
			}
			switch random.Intn(4) {
			case 0:
				next, _ := one.Ask(block, node)
				last[block] = max(last[block], next.Seq)
				checkAsk(t, all, block, node, next)
			case 1:
				checkDone(t, all, block, seq, one.Done(block, seq))
			default:
				next, _ := one.Ack(block, seq, node)
				last[block] = max(last[block], next.Seq)
				checkAck(t, all, block, seq, node, next)
			}
			for other := range alone {
				current, _ := alone[other].Current(other)
				checkBlock(t, all, other, current, alone[other].Waiting(other)...)
			}
		}
	}
}

// P12.2: a copy has the same requests, active, ending (and who knows it), and waiting.
func TestCopyIsLikeIt(t *testing.T) {
	for name, start := range starts {
		t.Log(name)
		checkSame(t, start(t).Copy(), start(t))
		checkSame(t, start(t).Copy().Copy(), start(t))
	}
	c := closing(t).Copy()
	checkBlock(t, c, 1, none, 0, 2, 0)
	checkAck(t, c, 1, 5, 0, none)
	checkAck(t, c, 1, 5, 2, request(1, 0, 6))
	// It has as many nodes and blocks.
	for _, node := range outside(3) {
		checkAsk(t, c, 0, node, none)
	}
	for _, block := range outside(2) {
		checkAsk(t, c, block, 0, none)
	}
	checkAsk(t, c, 0, 2, request(0, 2, 1))
	checkEnd(t, c, 0, 1, 3, none)
}

// P12.2: neither a copy nor what it was made of knows what becomes of the other one.
func TestCopiesKnowNothingOfEachOther(t *testing.T) {
	changes := []func(*Arbiter){
		func(a *Arbiter) {},
		func(a *Arbiter) { a.Ask(1, 1) },
		func(a *Arbiter) { a.Ask(1, 2); a.Ask(1, 2) },
		func(a *Arbiter) { a.Ask(0, 2); a.Ask(0, 1) },
		func(a *Arbiter) { a.Done(1, 5) },
		func(a *Arbiter) { a.Done(1, 5); a.Ack(1, 5, 0) },
		func(a *Arbiter) { a.Ack(1, 5, 2) },
		func(a *Arbiter) { a.Done(1, 5); a.Ack(1, 5, 0); a.Ack(1, 5, 1); a.Ack(1, 5, 2); a.Ask(1, 2) },
		func(a *Arbiter) { a.Ask(1, 0); a.Done(1, 6); a.Ack(1, 6, 0) },
		func(a *Arbiter) { w := a.Waiting(1); clear(w[:cap(w)]) },
	}
	for name, start := range starts {
		changed := func(change func(*Arbiter)) *Arbiter {
			a := start(t)
			change(a)
			return a
		}
		for at, one := range changes {
			for _, two := range changes {
				t.Log(name, at)
				a := start(t)
				c := a.Copy()
				d := c.Copy()
				one(a)
				two(c)
				checkSame(t, a, changed(one))
				checkSame(t, c, changed(two))
				checkSame(t, d, start(t))
				// The other one first.
				a = start(t)
				c = a.Copy()
				two(c)
				one(a)
				checkSame(t, c, changed(two))
				checkSame(t, a, changed(one))
			}
		}
	}
}

// call is an Ask, a Done or an Ack, by its name.
type call struct {
	name             string
	block, seq, node int
}

// meaning is the promises' plain meaning: all that happened to each block.
type meaning struct {
	nodes int
	of    []history
}

// history is of one block: all who asked, how many of them became active, which of these were done, and who knew it then.
type history struct {
	asked []int
	begun int
	done  map[int]bool
	knew  map[[2]int]bool
}

func newMeaning(nodes, blocks int) *meaning {
	m := &meaning{nodes: nodes}
	for range blocks {
		m.of = append(m.of, history{done: map[int]bool{}, knew: map[[2]int]bool{}})
	}
	return m
}

// ended tells whether a request is done, and all nodes know it.
func (m *meaning) ended(block, seq int) bool {
	for node := range m.nodes {
		if !m.of[block].knew[[2]int{seq, node}] {
			return false
		}
	}
	return m.of[block].done[seq]
}

// current is the request that is active, none if there isn't one.
func (m *meaning) current(block int) api.Active {
	h := m.of[block]
	if h.begun == 0 || h.done[h.begun] {
		return none
	}
	return request(block, h.asked[h.begun-1], h.begun)
}

// next is what becomes active now, none if nothing does.
func (m *meaning) next(block int) api.Active {
	h := &m.of[block]
	if h.begun == len(h.asked) || h.begun > 0 && !m.ended(block, h.begun) {
		return none
	}
	h.begun++
	return m.current(block)
}

// both has a call done by an Arbiter and by its meaning; it tells where they differ, and answers what became active.
func (c call) both(t *testing.T, a *Arbiter, m *meaning) api.Active {
	t.Helper()
	became, there := none, c.block >= 0 && c.block < len(m.of)
	mayBe := there && c.node >= 0 && c.node < m.nodes
	switch c.name {
	case "ask":
		if mayBe {
			m.of[c.block].asked = append(m.of[c.block].asked, c.node)
			became = m.next(c.block)
		}
		checkAsk(t, a, c.block, c.node, became)
	case "done":
		is := there && m.current(c.block) != none && m.current(c.block).Seq == c.seq
		if is {
			m.of[c.block].done[c.seq] = true
		}
		checkDone(t, a, c.block, c.seq, is)
	case "ack":
		if mayBe && m.of[c.block].done[c.seq] && !m.ended(c.block, c.seq) {
			m.of[c.block].knew[[2]int{c.seq, c.node}] = true
			became = m.next(c.block)
		}
		checkAck(t, a, c.block, c.seq, c.node, became)
	}
	for block, h := range m.of {
		checkBlock(t, a, block, m.current(block), h.asked[h.begun:]...)
	}
	return became
}

// P12.2: all orders of six calls, from each point of them on a copy, are as the promises say.
func TestAllOrders(t *testing.T) {
	calls := []call{
		{"ask", 0, 0, 0}, {"ask", 0, 0, 1}, {"done", 0, 1, 0}, {"done", 0, 2, 0},
		{"ack", 0, 1, 0}, {"ack", 0, 1, 1}, {"ack", 0, 2, 1},
	}
	var follow func(a *Arbiter, before []call)
	follow = func(a *Arbiter, before []call) {
		if len(before) == 6 {
			return
		}
		for _, c := range calls {
			m, again := newMeaning(2, 1), New(2, 1)
			for _, b := range before {
				b.both(t, again, m)
			}
			d := a.Copy()
			c.both(t, d, m)
			follow(d, append(slices.Clip(before), c))
		}
	}
	follow(New(2, 1), nil)
}

// anyCall is a call by chance, of a number near to the block's last one, and now and then of what there isn't.
func anyCall(random *rand.Rand, m *meaning) call {
	c := call{"ack", random.Intn(len(m.of)), 0, random.Intn(m.nodes)}
	c.seq = m.of[c.block].begun + []int{0, 0, 0, 0, 0, -1, 1}[random.Intn(7)]
	if chance := random.Intn(8 + m.nodes); chance < 2 {
		c.name = "ask"
	} else if chance < 5 {
		c.name = "done"
	}
	if random.Intn(30) == 0 {
		c.block = outside(len(m.of))[random.Intn(16)]
	}
	if random.Intn(30) == 0 {
		c.node = outside(m.nodes)[random.Intn(16)]
	}
	return c
}

// P12.2 and P12.3: long orders of calls are as the promises say; of a block never two are active, or ending; who becomes active are those who asked, in their order, each once.
func TestLongOrders(t *testing.T) {
	random := rand.New(rand.NewSource(122))
	for _, size := range [][2]int{{1, 1}, {2, 1}, {2, 3}, {3, 2}, {5, 4}, {64, 2}} {
		for range 10 {
			a, m := New(size[0], size[1]), newMeaning(size[0], size[1])
			began := make([][]int, size[1])
			for range 600 {
				c := anyCall(random, m)
				_, was := a.Current(c.block)
				if became := c.both(t, a, m); became != none {
					if was || became.Seq != len(began[c.block])+1 {
						t.Fatalf("%+v: %+v became active behind %v, while another is: %t", c, became, began[c.block], was)
					}
					began[c.block] = append(began[c.block], became.Node)
				}
				if random.Intn(20) == 0 {
					a = a.Copy()
				}
			}
			for block, h := range m.of {
				if !slices.Equal(append(began[block], a.Waiting(block)...), h.asked) {
					t.Fatalf("block %d: %v asked, %v became active", block, h.asked, began[block])
				}
			}
		}
	}
}

// P12.3: each that asked becomes active once, in the order in which they asked, if all that are active end; while one is active, or ending, no other one becomes active.
func TestEachThatAskedBecomesActive(t *testing.T) {
	random := rand.New(rand.NewSource(123))
	for _, nodes := range []int{1, 2, 7, 64} {
		a := New(nodes, 2)
		var asked, began []int
		ask := func() {
			node := random.Intn(nodes)
			asked = append(asked, node)
			if got, ok := a.Ask(1, node); ok {
				if len(began)+1 != len(asked) {
					t.Fatalf("%+v became active, and %d wait before it", got, len(asked)-len(began)-1)
				}
				began = append(began, got.Node)
			}
		}
		for range 100 {
			for range random.Intn(3) {
				ask()
			}
			current, ok := a.Current(1)
			if !ok {
				continue
			}
			if current != request(1, asked[len(began)-1], len(began)) {
				t.Fatalf("%+v is active behind %v", current, began)
			}
			checkDone(t, a, 1, current.Seq, true)
			for at, node := range random.Perm(nodes) {
				if at > 0 && random.Intn(nodes) == 0 {
					before := len(began)
					if ask(); len(began) != before {
						t.Fatalf("%d of %d nodes know of %+v's end, and another one became active", at, nodes, current)
					}
				}
				got, ok := a.Ack(1, current.Seq, node)
				if ok != (at == nodes-1 && len(asked) > len(began)) {
					t.Fatalf("%d of %d nodes know: %+v, %t", at+1, nodes, got, ok)
				}
				if ok {
					began = append(began, got.Node)
				}
			}
		}
		for len(began) < len(asked) {
			checkEnd(t, a, 1, len(began), nodes, request(1, asked[len(began)], len(began)+1))
			began = append(began, asked[len(began)])
		}
		if !slices.Equal(began, asked) {
			t.Fatalf("%v asked, %v became active", asked, began)
		}
		if got := a.Waiting(1); len(got) != 0 {
			t.Fatalf("%v wait, and all became active", got)
		}
	}
}

// P12.3: so it is when very many wait, and in time.
func TestVeryManyWait(t *testing.T) {
	const many = 1 << 19
	a := New(3, 1)
	for at := range many {
		if _, ok := a.Ask(0, at*at%7%3); ok != (at == 0) {
			t.Fatalf("ask %d: %t", at, ok)
		}
	}
	if got := len(a.Waiting(0)); got != many-1 {
		t.Fatalf("%d wait", got)
	}
	for at := range many - 1 {
		checkEnd(t, a, 0, at+1, 3, request(0, (at+1)*(at+1)%7%3, at+2))
	}
	checkBlock(t, a, 0, request(0, (many-1)*(many-1)%7%3, many))
}

// P12.1: no call panics, and each ends, whatever numbers it is handed.
func TestCallsEndWhateverTheyAreHanded(t *testing.T) {
	numbers := append(outside(2), 0, 1)
	for _, nodes := range numbers {
		for _, blocks := range numbers {
			a := New(nodes, blocks)
			for _, block := range numbers {
				for _, node := range numbers {
					a.Ask(block, node)
					for _, seq := range numbers {
						a.Done(block, seq)
						a.Ack(block, seq, node)
					}
				}
				a.Current(block)
				a.Waiting(block)
			}
			a.Copy()
		}
	}
}
