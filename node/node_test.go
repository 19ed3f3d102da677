package node

import (
	"math"
	"reflect"
	"slices"
	"testing"

	"jeton/advice"
	"jeton/api"
	"jeton/bundle"
	"jeton/letter"
	"jeton/timer"
)

// Most tests have three nodes, of which this is the one that is tried; home comes behind them.
const (
	low  = 0
	self = 1
	high = 2
	home = 3
)

// noDraws advise nothing.
var noDraws advice.Draws

// config has four blocks of five tokens, and two lines at each node; who waits asks persistently with the first tick.
func config(policy int) api.Config {
	return api.Config{Nodes: 3, Blocks: 4, Tokens: 5, Sets: 1, Ways: 2, Cap: 9, Wait: 1, Tries: 0, Policy: policy}
}

// policies are all that there are.
var policies = []int{api.PNull, api.PTokenB, api.PScript}

// some are tokens without the owner's and the value.
func some(count int) api.Bundle { return api.Bundle{Count: count} }

// valued are tokens with a value.
func valued(count int, data int64) api.Bundle {
	return api.Bundle{Count: count, Has: true, Data: data}
}

// owned are tokens with the owner's, and a value.
func owned(count int, data int64) api.Bundle {
	return api.Bundle{Count: count, Owner: true, Has: true, Data: data}
}

func line(block int, b api.Bundle) api.Line { return api.Line{Block: block, Tokens: b} }

func load(block int) api.Op { return api.Op{Block: block} }

func store(block int, value int64) api.Op { return api.Op{Block: block, Write: true, Value: value} }

// Letters that come to the node that is tried.

func tokensFrom(from, block int, b api.Bundle) api.Letter {
	return api.Letter{Kind: api.LTokens, From: from, To: self, Block: block, Tokens: b}
}

func askFrom(from, block int, write bool) api.Letter {
	return api.Letter{Kind: api.LAsk, From: from, To: self, Block: block, Write: write}
}

func activate(block, seq, who int) api.Letter {
	return api.Letter{Kind: api.LActivate, From: home, To: self, Block: block, Seq: seq, Who: who}
}

func deactivate(block, seq int) api.Letter {
	return api.Letter{Kind: api.LDeactivate, From: home, To: self, Block: block, Seq: seq}
}

// Letters that go from it.

func tokensTo(to, block int, b api.Bundle) api.Letter {
	return api.Letter{Kind: api.LTokens, From: self, To: to, Block: block, Tokens: b}
}

func askTo(to, block int, write bool) api.Letter {
	return api.Letter{Kind: api.LAsk, From: self, To: to, Block: block, Write: write}
}

func persists(block int) api.Letter {
	return api.Letter{Kind: api.LPersist, From: self, To: home, Block: block}
}

func tells(block, seq int) api.Letter {
	return api.Letter{Kind: api.LDone, From: self, To: home, Block: block, Seq: seq}
}

func acks(block, seq int) api.Letter {
	return api.Letter{Kind: api.LAck, From: self, To: home, Block: block, Seq: seq}
}

// over is what is told of an operation that is over there.
func over(number int, op api.Op, value int64) []api.Done {
	return []api.Done{{Node: self, Number: number, Op: op, Value: value}}
}

// made is a new one.
func made(t *testing.T, c api.Config, id int) *Node {
	t.Helper()
	n, e := New(c, id)
	if n == nil || e != api.OK {
		t.Fatalf("New(%+v, %d) = %v, %d", c, id, n, e)
	}
	return n
}

// holding is the one that is tried, with these lines.
func holding(t *testing.T, c api.Config, all ...api.Line) *Node {
	t.Helper()
	n := made(t, c, self)
	for _, l := range all {
		check(t, n.Take(tokensFrom(home, l.Block, l.Tokens), noDraws), nil)
	}
	return n
}

// waiting is the one that is tried, with an operation that it waits for, and these lines.
func waiting(t *testing.T, c api.Config, op api.Op, all ...api.Line) *Node {
	t.Helper()
	n := holding(t, c, all...)
	if _, ok := n.Issue(op, noDraws); !ok || !n.Place().Busy {
		t.Fatalf("Issue(%+v) = %t, and it waits for nothing", op, ok)
	}
	return n
}

// check tells where what is over, and sent, isn't what is wanted.
func check(t *testing.T, got Out, done []api.Done, letters ...api.Letter) {
	t.Helper()
	if !slices.Equal(got.Letters, letters) {
		t.Fatalf("it sends %+v, not %+v", got.Letters, letters)
	}
	if !slices.Equal(got.Done, done) {
		t.Fatalf("over is %+v, not %+v", got.Done, done)
	}
}

// checkIssue tells where an operation isn't taken, or what comes of it isn't what is wanted.
func checkIssue(t *testing.T, n *Node, op api.Op, done []api.Done, letters ...api.Letter) {
	t.Helper()
	got, ok := n.Issue(op, noDraws)
	if !ok {
		t.Fatalf("Issue(%+v) = false", op)
	}
	check(t, got, done, letters...)
}

// checkTake tells where what is sent when a letter comes isn't what is wanted, or something is over.
func checkTake(t *testing.T, n *Node, l api.Letter, letters ...api.Letter) {
	t.Helper()
	check(t, n.Take(l, noDraws), nil, letters...)
}

// checkTick tells likewise of a tick.
func checkTick(t *testing.T, n *Node, letters ...api.Letter) {
	t.Helper()
	check(t, n.Tick(noDraws), nil, letters...)
}

// checkPlace tells where Place isn't what is wanted.
func checkPlace(t *testing.T, n *Node, want api.Place) {
	t.Helper()
	if got := n.Place(); !same(got, want) {
		t.Fatalf("Place() = %+v, not %+v", got, want)
	}
}

func same(a, b api.Place) bool {
	return slices.Equal(a.Lines, b.Lines) && a.Busy == b.Busy && a.Op == b.Op && slices.Equal(a.Actives, b.Actives)
}

// checkLines tells where it has other lines than these.
func checkLines(t *testing.T, n *Node, want ...api.Line) {
	t.Helper()
	if got := n.Place().Lines; !slices.Equal(got, want) {
		t.Fatalf("its lines are %+v, not %+v", got, want)
	}
}

// checkActives tells where it knows of other active requests than these.
func checkActives(t *testing.T, n *Node, want ...api.Active) {
	t.Helper()
	if got := n.Place().Actives; !slices.Equal(got, want) {
		t.Fatalf("active are %+v, not %+v", got, want)
	}
}

// P15.2: the chapter's example.
func TestExample(t *testing.T) {
	n := made(t, api.Config{Nodes: 2, Blocks: 1, Tokens: 3, Sets: 1, Ways: 1, Cap: 1, Wait: 1, Policy: api.PTokenB}, 0)
	checkIssue(t, n, load(0), nil,
		api.Letter{Kind: api.LAsk, From: 0, To: 1}, api.Letter{Kind: api.LAsk, From: 0, To: 2})
	o := n.Take(api.Letter{Kind: api.LTokens, From: 1, To: 0, Tokens: owned(3, 7)}, noDraws)
	check(t, o, []api.Done{{Node: 0, Number: 1, Op: load(0), Value: 7}})
}

// P15.1: the face is what the chapter lists.
func TestFace(t *testing.T) {
	face := reflect.TypeOf(made(t, config(api.PNull), self))
	var names []string
	for i := range face.NumMethod() {
		names = append(names, face.Method(i).Name)
	}
	if want := []string{"Copy", "Issue", "Place", "Take", "Tick"}; !slices.Equal(names, want) {
		t.Errorf("a Node has %v, not %v", names, want)
	}
	for _, field := range reflect.VisibleFields(face.Elem()) {
		if field.IsExported() {
			t.Errorf("a Node shows %s", field.Name)
		}
	}
}

// someIds are numbers that may be a node's, and such that can't.
var someIds = []int{math.MinInt, math.MinInt32 - 1, -64, -1, 0, 1, 2, 3, 4, 62, 63, 64, 65, 1 << 32, math.MaxInt - 1, math.MaxInt}

// badConfigs may not be: each by one setting.
func badConfigs() []api.Config {
	var all []api.Config
	bad := func(set func(c *api.Config, x int), numbers ...int) {
		for _, x := range append(numbers, math.MinInt, -1, math.MaxInt) {
			c := config(api.PTokenB)
			set(&c, x)
			all = append(all, c)
		}
	}
	bad(func(c *api.Config, x int) { c.Nodes = x }, 0, 6, 64, 65)
	bad(func(c *api.Config, x int) { c.Blocks = x }, 0, 65)
	bad(func(c *api.Config, x int) { c.Tokens = x }, 0, 1, 2, 65537)
	bad(func(c *api.Config, x int) { c.Sets = x }, 0, 65)
	bad(func(c *api.Config, x int) { c.Ways = x }, 0, 17)
	bad(func(c *api.Config, x int) { c.Cap = x }, 0, 65537)
	bad(func(c *api.Config, x int) { c.Wait = x }, 0, 65)
	bad(func(c *api.Config, x int) { c.Tries = x }, -2, 9)
	bad(func(c *api.Config, x int) { c.Policy = x }, -2, 3)
	return append(all, api.Config{})
}

// P15.1: of a configuration that may not be there is no node, whatever id is: that is told ahead of it.
func TestNewOfBadConfigs(t *testing.T) {
	for _, c := range badConfigs() {
		for _, id := range someIds {
			if n, e := New(c, id); n != nil || e != api.ErrArg {
				t.Errorf("New(%+v, %d) = %v, %d", c, id, n, e)
			}
		}
	}
}

// P15.1: nodes are 0 to Nodes - 1; there is nothing at a new one.
func TestNewIds(t *testing.T) {
	for _, nodes := range []int{1, 2, 3, 5, 62, 63, 64} {
		c := config(api.PScript)
		c.Nodes, c.Tokens = nodes, 64
		for _, id := range append([]int{nodes - 1, nodes, nodes + 1}, someIds...) {
			n, e := New(c, id)
			if id >= 0 && id < nodes {
				if n == nil || e != api.OK {
					t.Fatalf("New(%+v, %d) = %v, %d", c, id, n, e)
				}
				checkPlace(t, n, api.Place{})
				continue
			}
			if n != nil || e != api.ErrNodes {
				t.Errorf("New(%+v, %d) = %v, %d", c, id, n, e)
			}
		}
	}
}

// P15.1: of the least and the greatest configuration there are nodes, with lines by Sets and Ways.
func TestNewAtTheLimits(t *testing.T) {
	least := made(t, api.Config{Nodes: 1, Blocks: 1, Tokens: 1, Sets: 1, Ways: 1, Cap: 1, Wait: 1}, 0)
	o := least.Take(api.Letter{Kind: api.LTokens, From: 1, To: 0, Tokens: owned(1, 7)}, noDraws)
	check(t, o, nil)
	checkPlace(t, least, api.Place{Lines: []api.Line{line(0, owned(1, 7))}})

	greatest := made(t, api.Config{
		Nodes: 64, Blocks: 64, Tokens: 65536, Sets: 64, Ways: 16, Cap: 65536, Wait: 64, Tries: 8, Policy: 2,
	}, 63)
	var all []api.Line
	for block := range 64 {
		b := owned(65536, int64(block))
		check(t, greatest.Take(api.Letter{Kind: api.LTokens, From: 64, To: 63, Block: block, Tokens: b}, noDraws), nil)
		all = append(all, line(block, b))
	}
	checkPlace(t, greatest, api.Place{Lines: all})
}

// P15.1: how many lines there are, and of which sets, is as the configuration says.
func TestLinesAreTheConfigurations(t *testing.T) {
	c := config(api.PNull)
	c.Sets = 2
	n := holding(t, c, line(0, some(1)), line(2, some(2)), line(1, some(3)))
	c.Sets, c.Ways = 1, 3
	m := holding(t, c, line(0, some(1)), line(2, some(2)), line(1, some(3)))
	for _, x := range []*Node{n, m} {
		checkLines(t, x, line(0, some(1)), line(1, some(3)), line(2, some(2)))
	}
	// Of two sets, the odd one has room still; three lines of one set are all that there are.
	checkTake(t, n, tokensFrom(home, 3, some(4)))
	checkTake(t, m, tokensFrom(home, 3, some(4)), tokensTo(home, 0, some(1)))
}

// P15.1: lines and requests by rising blocks, and the operation that is waited for.
func TestPlace(t *testing.T) {
	c := config(api.PNull)
	c.Ways = 4
	n := holding(t, c, line(3, valued(1, 7)), line(0, owned(2, -7)), line(1, some(4)))
	lines := []api.Line{line(0, owned(2, -7)), line(1, some(4)), line(3, valued(1, 7))}
	checkPlace(t, n, api.Place{Lines: lines})

	checkIssue(t, n, store(3, 9), nil)
	checkPlace(t, n, api.Place{Lines: lines, Busy: true, Op: store(3, 9)})

	checkTake(t, n, activate(2, 5, high))
	checkTake(t, n, activate(3, 2, self))
	checkTake(t, n, activate(0, 1, self), tells(0, 1))
	place := api.Place{
		Lines: lines, Busy: true, Op: store(3, 9),
		Actives: []api.Active{{Block: 0, Node: self, Seq: 1}, {Block: 2, Node: high, Seq: 5}, {Block: 3, Node: self, Seq: 2}},
	}
	checkPlace(t, n, place)
	// It tells no less when it is told again, and what it told is the caller's own.
	got := n.Place()
	got.Lines[0], got.Actives[0] = line(9, some(9)), api.Active{Block: 9}
	_, _ = append(got.Lines, line(9, some(9))), append(got.Actives, api.Active{Block: 9})
	checkPlace(t, n, place)
}

// P15.1: Op is as it was issued, with all that it has, a load's value too.
func TestPlaceHasTheVeryOperation(t *testing.T) {
	for _, block := range []int{0, 1, 2, 3} {
		for _, write := range []bool{false, true} {
			for _, value := range []int64{math.MinInt64, -1, 0, 1, math.MaxInt64} {
				op := api.Op{Block: block, Write: write, Value: value}
				n := made(t, config(api.PNull), self)
				checkIssue(t, n, op, nil)
				checkPlace(t, n, api.Place{Busy: true, Op: op})
			}
		}
	}
}

// P15.2: of a block that there isn't no operation is taken, and nothing is changed.
func TestIssueOfNoBlock(t *testing.T) {
	for _, policy := range policies {
		n := holding(t, config(policy), line(0, owned(5, 7)))
		place := n.Place()
		for _, block := range []int{math.MinInt, math.MinInt32 - 1, -4, -1, 4, 5, 63, 64, 1 << 32, math.MaxInt} {
			for _, op := range []api.Op{load(block), store(block, 9)} {
				if o, ok := n.Issue(op, advice.Draws{-1, -1, -1}); ok || len(o.Letters) != 0 || len(o.Done) != 0 {
					t.Fatalf("Issue(%+v) = %+v, %t", op, o, ok)
				}
				checkPlace(t, n, place)
				checkTick(t, n)
			}
		}
		// None of them counts.
		checkIssue(t, n, load(0), over(1, load(0), 7))
	}
}

// P15.2: while one is waited for no other one is taken: it is that still, and its timer goes on.
func TestIssueWhileItWaits(t *testing.T) {
	c := config(api.PTokenB)
	c.Wait = 3
	n := waiting(t, c, store(1, 9), line(0, owned(5, 7)))
	place := n.Place()
	for tick := range 3 {
		for _, op := range []api.Op{store(1, 9), load(1), load(0), store(0, 3), load(-1), load(4)} {
			if o, ok := n.Issue(op, advice.Draws{-1, -1, -1}); ok || len(o.Letters) != 0 || len(o.Done) != 0 {
				t.Fatalf("Issue(%+v) = %+v, %t, while it waits", op, o, ok)
			}
			checkPlace(t, n, place)
		}
		if tick < 2 {
			checkTick(t, n)
		}
	}
	checkTick(t, n, persists(1))
	check(t, n.Take(tokensFrom(home, 1, owned(5, 0)), noDraws), over(1, store(1, 9), 9))
	checkIssue(t, n, load(0), over(2, load(0), 7))
}

// P15.2: what can be done at once is over at once, and nobody is asked, whatever the policy.
func TestIssueOfWhatCanBeDone(t *testing.T) {
	for _, policy := range policies {
		for _, b := range []api.Bundle{valued(1, 7), valued(4, 7), valued(5, 7), owned(1, 7), owned(5, 7)} {
			n := holding(t, config(policy), line(2, b))
			for number := 1; number <= 5; number++ {
				op := api.Op{Block: 2, Value: int64(number)}
				o, ok := n.Issue(op, advice.Draws{-1, -1, -1})
				if !ok {
					t.Fatalf("Issue(%+v) = false", op)
				}
				check(t, o, over(number, op, 7))
				checkPlace(t, n, api.Place{Lines: []api.Line{line(2, b)}})
			}
		}
		for _, b := range []api.Bundle{valued(5, 7), owned(5, 7)} {
			n := holding(t, config(policy), line(2, b))
			for number, value := range []int64{9, 0, math.MinInt64, math.MaxInt64, -1} {
				op := store(2, value)
				o, ok := n.Issue(op, advice.Draws{-1, -1, -1})
				if !ok {
					t.Fatalf("Issue(%+v) = false", op)
				}
				check(t, o, over(number+1, op, value))
				b.Data = value
				checkPlace(t, n, api.Place{Lines: []api.Line{line(2, b)}})
			}
		}
	}
}

// P15.2: what can't be done is asked for: of whom advice.Targets tells, in that order, with Block and Write.
func TestIssueAsks(t *testing.T) {
	tokens := map[bool][]api.Bundle{
		false: {some(0), some(1), some(5)},
		true:  {some(0), some(1), some(5), valued(4, 7), owned(4, 7), owned(1, 7)},
	}
	for _, policy := range policies {
		for _, d := range []advice.Draws{{}, {-1, -1, -1}, {1}, {2}, {4}, {8}, {9}, {13, 7, 7}, {0, -1, -1}, {math.MinInt}} {
			for write, all := range tokens {
				for _, b := range all {
					n := made(t, config(policy), self)
					if b.Count > 0 {
						n = holding(t, config(policy), line(2, b))
					}
					op := api.Op{Block: 2, Write: write, Value: 9}
					var want []api.Letter
					for _, to := range advice.Targets(config(policy), self, d) {
						want = append(want, askTo(to, 2, write))
					}
					o, ok := n.Issue(op, d)
					if !ok {
						t.Fatalf("Issue(%+v) = false", op)
					}
					check(t, o, nil, want...)
					if got := n.Place(); !got.Busy || got.Op != op {
						t.Fatalf("it waits for %+v, %t", got.Op, got.Busy)
					}
				}
			}
		}
	}
}

// P15.2: of 64 nodes all but itself, and home, are asked; by draws each one by its bit.
func TestIssueAsksOfManyNodes(t *testing.T) {
	c := config(api.PTokenB)
	c.Nodes, c.Tokens = 64, 64
	for _, id := range []int{0, 1, 31, 62, 63} {
		o, _ := made(t, c, id).Issue(store(3, 1), noDraws)
		var want []api.Letter
		for to := range 65 {
			if to != id {
				want = append(want, api.Letter{Kind: api.LAsk, From: id, To: to, Block: 3, Write: true})
			}
		}
		check(t, o, nil, want...)
	}
	c.Policy = api.PScript
	for to := range 65 {
		var d advice.Draws
		d[to/64] = 1 << (to % 64)
		o, _ := made(t, c, 5).Issue(load(2), d)
		if to == 5 {
			check(t, o, nil)
			continue
		}
		check(t, o, nil, api.Letter{Kind: api.LAsk, From: 5, To: to, Block: 2})
	}
}

// P15.2: an operation of a block on which others' requests are active is taken and asked for as well.
func TestIssueUnderAnActiveRequest(t *testing.T) {
	n := made(t, config(api.PTokenB), self)
	checkTake(t, n, activate(2, 1, high))
	checkIssue(t, n, load(2), nil, askTo(low, 2, false), askTo(high, 2, false), askTo(home, 2, false))
}

// badLetters may not be on their way to the node that is tried, or aren't to it.
func badLetters() []api.Letter {
	var all []api.Letter
	good := []api.Letter{
		tokensFrom(home, 0, some(1)), tokensFrom(high, 0, owned(5, 7)), askFrom(low, 0, true), askFrom(high, 0, false),
		activate(0, 3, high), activate(0, 3, self), deactivate(0, 3),
	}
	bad := func(change func(l *api.Letter)) {
		for _, l := range good {
			change(&l)
			all = append(all, l)
		}
	}
	for _, x := range []int{math.MinInt, -1, 0, 8, 9, math.MaxInt, api.LPersist, api.LDone, api.LAck} {
		bad(func(l *api.Letter) { l.Kind = x })
	}
	for _, x := range []int{math.MinInt, -1, 4, 64, math.MaxInt} {
		bad(func(l *api.Letter) { l.Block = x })
		bad(func(l *api.Letter) { l.From = x })
		bad(func(l *api.Letter) { l.To = x })
	}
	for _, x := range []int{low, high, home} {
		bad(func(l *api.Letter) { l.To = x })
	}
	bad(func(l *api.Letter) { l.From = self })
	for _, x := range []int{math.MinInt, -1} {
		bad(func(l *api.Letter) { l.Seq = x })
		bad(func(l *api.Letter) { l.Who = x })
	}
	for _, l := range good {
		if l.Kind == api.LTokens || l.Kind == api.LAsk {
			l.Seq = 1
		} else {
			l.Seq = 0
		}
		all = append(all, l)
	}
	for _, x := range []int{3, 4, math.MaxInt} {
		bad(func(l *api.Letter) { l.Who = x })
	}
	for _, b := range []api.Bundle{{Count: -1}, {Count: 6}, {Count: math.MinInt}, {Count: math.MaxInt}, {Owner: true, Has: true}, {Data: 7}, {Has: true}, {Count: 1, Owner: true}, {Count: 1, Data: 7}} {
		bad(func(l *api.Letter) { l.Tokens = b })
	}
	return append(all, badOfOneKind()...)
}

// badOfOneKind are such as are bad by what their kind alone asks for.
func badOfOneKind() []api.Letter {
	all := []api.Letter{
		{},
		{Kind: api.LTokens, From: home, To: self},
		{Kind: api.LTokens, From: home, To: self, Write: true, Tokens: some(1)},
		{Kind: api.LTokens, From: home, To: self, Who: high, Tokens: some(1)},
		{Kind: api.LAsk, From: home, To: self},
		{Kind: api.LAsk, From: home, To: self, Write: true},
		{Kind: api.LAsk, From: low, To: self, Tokens: some(1)},
		{Kind: api.LAsk, From: low, To: self, Who: high},
		{Kind: api.LActivate, From: low, To: self, Seq: 3, Who: high},
		{Kind: api.LActivate, From: home, To: self, Seq: 3, Who: high, Write: true},
		{Kind: api.LActivate, From: home, To: self, Seq: 3, Who: high, Tokens: some(1)},
		{Kind: api.LDeactivate, From: high, To: self, Seq: 3},
		{Kind: api.LDeactivate, From: home, To: self, Seq: 3, Who: high},
		{Kind: api.LDeactivate, From: home, To: self, Seq: 3, Write: true},
		{Kind: api.LDeactivate, From: home, To: self, Seq: 3, Tokens: some(1)},
	}
	for _, kind := range []int{api.LPersist, api.LDone, api.LAck} {
		for _, from := range []int{low, self, high, home} {
			for _, to := range []int{self, home} {
				all = append(all,
					api.Letter{Kind: kind, From: from, To: to},
					api.Letter{Kind: kind, From: from, To: to, Seq: 3})
			}
		}
	}
	return all
}

// P15.2: of a letter that may not be on its way, or that isn't to it, nothing comes, wherever the node is.
func TestTakeOfBadLetters(t *testing.T) {
	for _, policy := range policies {
		c := config(policy)
		idle := holding(t, c, line(0, owned(4, 7)), line(1, some(1)))
		busy := waiting(t, c, store(0, 9), line(0, owned(4, 7)))
		own := waiting(t, c, store(0, 9), line(0, owned(4, 7)))
		checkTake(t, own, activate(0, 2, self))
		others := waiting(t, c, store(0, 9))
		checkTake(t, others, activate(0, 2, high))
		for _, n := range []*Node{idle, busy, own, others} {
			place := n.Place()
			for _, l := range badLetters() {
				if l.To == self && letter.Check(c, l) == api.OK {
					continue // what was changed in it does it no harm
				}
				check(t, n.Take(l, advice.Draws{5, 3, 0}), nil)
				checkPlace(t, n, place)
			}
		}
	}
}

// P15.2: a letter to another one does nothing, though it would do something there.
func TestTakeOfOthersLetters(t *testing.T) {
	n := holding(t, config(api.PTokenB), line(0, owned(5, 7)))
	place := n.Place()
	for _, to := range []int{low, high, home} {
		for _, l := range []api.Letter{
			tokensFrom(home, 1, some(1)), tokensFrom(low, 1, some(1)), askFrom(high, 0, true), askFrom(low, 0, false),
			activate(0, 1, high), activate(0, 1, self), deactivate(0, 1),
		} {
			l.To = to
			checkTake(t, n, l)
			checkPlace(t, n, place)
		}
	}
	checkTake(t, n, activate(0, 1, high), tokensTo(high, 0, owned(5, 7)))
}

// P15.2: tokens that come with another node's request active go on to that one, all, and as they came; nothing stays.
func TestTokensGoOn(t *testing.T) {
	bundles := []api.Bundle{some(1), some(5), valued(1, 7), valued(5, -7), owned(1, 7), owned(3, 0), owned(5, math.MinInt64)}
	for _, who := range []int{low, high} {
		for _, from := range []int{low, high, home} {
			for _, b := range bundles {
				idle := made(t, config(api.PTokenB), self)
				busy := waiting(t, config(api.PTokenB), load(2))
				elsewhere := waiting(t, config(api.PTokenB), store(1, 9), line(1, owned(4, 3)))
				for _, n := range []*Node{idle, busy, elsewhere} {
					checkTake(t, n, activate(2, 4, who))
					place := n.Place()
					for range 3 {
						checkTake(t, n, tokensFrom(from, 2, b), tokensTo(who, 2, b))
						checkPlace(t, n, place)
					}
				}
			}
		}
	}
}

// P15.2: just the tokens of the block whose request is active go on, and just while it is.
func TestTokensGoOnOfThatBlockAlone(t *testing.T) {
	n := made(t, config(api.PNull), self)
	checkTake(t, n, activate(2, 4, high))
	checkTake(t, n, tokensFrom(home, 1, some(1)))
	checkTake(t, n, activate(2, 5, low))
	checkTake(t, n, tokensFrom(home, 2, some(1)), tokensTo(low, 2, some(1)))
	checkTake(t, n, deactivate(2, 4), acks(2, 4))
	checkTake(t, n, tokensFrom(home, 2, some(1)), tokensTo(low, 2, some(1)))
	checkTake(t, n, deactivate(2, 5), acks(2, 5))
	checkTake(t, n, tokensFrom(home, 2, some(3)))
	checkLines(t, n, line(1, some(1)), line(2, some(3)))
}

// P15.2: with no request active, and with its own, tokens are absorbed, and those of a line are together.
func TestTokensAreAbsorbed(t *testing.T) {
	for _, own := range []bool{false, true} {
		n := made(t, config(api.PNull), self)
		if own {
			checkTake(t, n, activate(2, 1, self), tells(2, 1))
		}
		checkTake(t, n, tokensFrom(home, 2, some(1)))
		checkLines(t, n, line(2, some(1)))
		checkTake(t, n, tokensFrom(low, 2, valued(2, 7)))
		checkLines(t, n, line(2, valued(3, 7)))
		checkTake(t, n, tokensFrom(high, 2, owned(1, 7)))
		checkLines(t, n, line(2, owned(4, 7)))
		checkTake(t, n, tokensFrom(high, 0, some(5)))
		checkLines(t, n, line(0, some(5)), line(2, owned(4, 7)))
	}
}

// P15.2: what must go for tokens that come goes home, all: the line that was used longest ago, an operation being a use.
func TestTokensPushALineHome(t *testing.T) {
	for _, own := range []bool{false, true} {
		n := holding(t, config(api.PTokenB), line(0, owned(2, 7)), line(1, valued(3, 8)))
		if own {
			checkTake(t, n, activate(2, 1, self), tells(2, 1))
		}
		checkTake(t, n, tokensFrom(high, 2, owned(4, 9)), tokensTo(home, 0, owned(2, 7)))
		checkLines(t, n, line(1, valued(3, 8)), line(2, owned(4, 9)))
		checkIssue(t, n, load(1), over(1, load(1), 8))
		checkTake(t, n, tokensFrom(high, 0, some(1)), tokensTo(home, 2, owned(4, 9)))
		checkLines(t, n, line(0, some(1)), line(1, valued(3, 8)))
		// More of a block that has a line push nobody.
		checkTake(t, n, tokensFrom(low, 1, some(1)))
		checkLines(t, n, line(0, some(1)), line(1, valued(4, 8)))
	}
}

// P15.2: the line of the block that is waited for never goes, though it was used longest ago; if it is the only one, what comes goes home.
func TestTokensPushNotWhatIsWaitedFor(t *testing.T) {
	for _, own := range []bool{false, true} {
		c := config(api.PNull)
		two := waiting(t, c, store(0, 9), line(0, owned(2, 7)), line(1, some(3)))
		c.Ways = 1
		one := waiting(t, c, store(0, 9), line(0, owned(2, 7)))
		if own {
			checkTake(t, two, activate(0, 1, self))
			checkTake(t, one, activate(0, 1, self))
		}
		checkTake(t, two, tokensFrom(low, 2, some(4)), tokensTo(home, 1, some(3)))
		checkTake(t, two, tokensFrom(low, 3, valued(5, 1)), tokensTo(home, 2, some(4)))
		checkLines(t, two, line(0, owned(2, 7)), line(3, valued(5, 1)))

		checkTake(t, one, tokensFrom(low, 2, valued(4, 3)), tokensTo(home, 2, valued(4, 3)))
		checkLines(t, one, line(0, owned(2, 7)))
		checkTake(t, one, tokensFrom(low, 0, some(2)))
		checkLines(t, one, line(0, owned(4, 7)))

		// When it is over, its line goes as any other one.
		var ends []api.Letter
		if own {
			ends = append(ends, tells(0, 1))
		}
		check(t, one.Take(tokensFrom(low, 0, some(1)), noDraws), over(1, store(0, 9), 9), ends...)
		checkTake(t, one, tokensFrom(low, 2, valued(4, 3)), tokensTo(home, 0, owned(5, 9)))
	}
}

// P15.2: a load is over with the first token that has the value beside it, and not ahead of it.
func TestTokensLetALoadBeOver(t *testing.T) {
	for _, policy := range policies {
		for _, own := range []bool{false, true} {
			for _, b := range []api.Bundle{valued(1, 7), valued(3, 7), owned(1, 7), owned(5, 7)} {
				n := waiting(t, config(policy), load(2))
				var ends []api.Letter
				if own {
					checkTake(t, n, activate(2, 6, self))
					ends = append(ends, tells(2, 6))
				}
				checkTake(t, n, tokensFrom(low, 2, some(1)))
				checkTake(t, n, tokensFrom(low, 1, owned(5, 3)))
				checkTake(t, n, tokensFrom(low, 2, some(1)))
				check(t, n.Take(tokensFrom(high, 2, b), noDraws), over(1, load(2), 7), ends...)
				if n.Place().Busy {
					t.Fatal("it waits for what is over")
				}
				checkTake(t, n, tokensFrom(high, 2, b))
			}
		}
	}
}

// P15.2: a store is over with the last of all tokens, if the value is there, and not ahead of it.
func TestTokensLetAStoreBeOver(t *testing.T) {
	for _, policy := range policies {
		for _, own := range []bool{false, true} {
			n := waiting(t, config(policy), store(2, 9))
			var ends []api.Letter
			if own {
				checkTake(t, n, activate(2, 6, self))
				ends = append(ends, tells(2, 6))
			}
			checkTake(t, n, tokensFrom(low, 2, owned(2, 7)))
			checkTake(t, n, tokensFrom(low, 2, some(1)))
			checkTake(t, n, tokensFrom(low, 1, owned(5, 3)))
			checkTake(t, n, tokensFrom(low, 2, valued(1, 7)))
			check(t, n.Take(tokensFrom(home, 2, some(1)), noDraws), over(1, store(2, 9), 9), ends...)
			checkPlace(t, n, api.Place{
				Lines:   []api.Line{line(1, owned(5, 3)), line(2, owned(5, 9))},
				Actives: actives(own, api.Active{Block: 2, Node: self, Seq: 6}),
			})
		}
	}
	// All tokens, but no value: that comes with no more.
	n := waiting(t, config(api.PNull), store(2, 9))
	checkTake(t, n, tokensFrom(low, 2, some(5)))
	checkPlace(t, n, api.Place{Lines: []api.Line{line(2, some(5))}, Busy: true, Op: store(2, 9)})
}

// actives is a list of one, or of none.
func actives(one bool, a api.Active) []api.Active {
	if !one {
		return nil
	}
	return []api.Active{a}
}

// P15.2: what must go goes first; then the end of a request is told.
func TestOrderOfLetters(t *testing.T) {
	c := config(api.PTokenB)
	c.Ways = 1
	for _, op := range []api.Op{load(2), store(2, 9)} {
		n := waiting(t, c, op, line(0, owned(3, 4)))
		checkTake(t, n, activate(2, 1, self))
		value := int64(7)
		if op.Write {
			value = 9
		}
		o := n.Take(tokensFrom(home, 2, owned(5, 7)), noDraws)
		check(t, o, over(1, op, value), tokensTo(home, 0, owned(3, 4)), tells(2, 1))
	}
}

// P15.2: what is given to who asks is what advice.Reply tells, as the cache lets it go; the rest stays.
func TestAsk(t *testing.T) {
	bundles := []api.Bundle{some(1), some(3), valued(1, 7), valued(4, 7), owned(1, 7), owned(2, 7), owned(5, 7)}
	draws := []advice.Draws{{}, {1}, {1, 1}, {1, 2}, {1, 3}, {2, 0}, {2, 3}, {5, 0}, {5, 3}, {-1, 3}, {math.MaxInt, -1}, {math.MinInt, -1}}
	for _, policy := range policies {
		for _, b := range bundles {
			for _, write := range []bool{false, true} {
				for _, d := range draws {
					for _, from := range []int{low, high} {
						n := holding(t, config(policy), line(2, b), line(0, owned(5, 3)))
						count, owner, data := advice.Reply(policy, b, write, d)
						gives, rest := bundle.Split(b, count, owner, data)
						var want []api.Letter
						if gives.Count > 0 {
							want = append(want, tokensTo(from, 2, gives))
						}
						check(t, n.Take(askFrom(from, 2, write), d), nil, want...)
						lines := []api.Line{line(0, owned(5, 3))}
						if rest.Count > 0 {
							lines = append(lines, line(2, rest))
						}
						checkLines(t, n, lines...)
					}
				}
			}
		}
	}
}

// P15.2: the same, told in tokens.
func TestAskToldInTokens(t *testing.T) {
	for _, row := range []struct {
		policy      int
		has         api.Bundle
		write       bool
		d           advice.Draws
		gives, rest api.Bundle
	}{
		{api.PNull, owned(5, 7), false, advice.Draws{5, 3}, api.Bundle{}, owned(5, 7)},
		{api.PNull, owned(5, 7), true, advice.Draws{5, 3}, api.Bundle{}, owned(5, 7)},
		{api.PTokenB, owned(5, 7), false, noDraws, valued(1, 7), owned(4, 7)},
		{api.PTokenB, owned(1, 7), false, noDraws, owned(1, 7), api.Bundle{}},
		{api.PTokenB, valued(4, 7), false, noDraws, api.Bundle{}, valued(4, 7)},
		{api.PTokenB, some(4), false, noDraws, api.Bundle{}, some(4)},
		{api.PTokenB, owned(5, 7), true, noDraws, owned(5, 7), api.Bundle{}},
		{api.PTokenB, valued(4, 7), true, noDraws, some(4), api.Bundle{}},
		{api.PTokenB, some(1), true, noDraws, some(1), api.Bundle{}},
		{api.PScript, owned(5, 7), false, advice.Draws{2, 0}, some(2), owned(3, 7)},
		{api.PScript, owned(5, 7), true, advice.Draws{2, 1}, owned(2, 7), valued(3, 7)},
		{api.PScript, owned(5, 7), true, advice.Draws{9, 0}, some(4), owned(1, 7)},
		{api.PScript, owned(5, 7), false, advice.Draws{9, 3}, owned(5, 7), api.Bundle{}},
		{api.PScript, owned(5, 7), false, advice.Draws{0, 3}, api.Bundle{}, owned(5, 7)},
		{api.PScript, owned(5, 7), false, advice.Draws{-9, 3}, api.Bundle{}, owned(5, 7)},
	} {
		n := holding(t, config(row.policy), line(3, row.has))
		var want []api.Letter
		if row.gives.Count > 0 {
			want = append(want, tokensTo(high, 3, row.gives))
		}
		check(t, n.Take(askFrom(high, 3, row.write), row.d), nil, want...)
		if row.rest.Count > 0 {
			checkLines(t, n, line(3, row.rest))
		} else {
			checkLines(t, n)
		}
	}
}

// P15.2: of a block that there are no tokens of nothing is given, whatever is advised, and whatever else is there.
func TestAskOfNothing(t *testing.T) {
	for _, policy := range policies {
		for _, write := range []bool{false, true} {
			n := holding(t, config(policy), line(0, owned(5, 7)))
			busy := waiting(t, config(policy), store(2, 9), line(0, owned(5, 7)))
			for _, x := range []*Node{n, busy} {
				place := x.Place()
				check(t, x.Take(askFrom(low, 2, write), advice.Draws{5, 3}), nil)
				checkPlace(t, x, place)
			}
		}
	}
}

// P15.2, P15.3: of the block that it waits for it gives nothing while a request of its own is active, and gives else.
func TestAskOfWhatIsWaitedFor(t *testing.T) {
	all := advice.Draws{5, 3}
	for _, policy := range []int{api.PTokenB, api.PScript} {
		gives := tokensTo(high, 2, owned(4, 7))
		start := func() *Node { return waiting(t, config(policy), store(2, 9), line(2, owned(4, 7))) }

		check(t, start().Take(askFrom(high, 2, true), all), nil, gives)

		own := start()
		checkTake(t, own, activate(2, 3, self))
		place := own.Place()
		for _, write := range []bool{false, true} {
			for _, from := range []int{low, high} {
				check(t, own.Take(askFrom(from, 2, write), all), nil)
				checkPlace(t, own, place)
			}
		}
		// Of another block it gives.
		checkTake(t, own, tokensFrom(home, 1, owned(5, 3)))
		check(t, own.Take(askFrom(high, 1, true), all), nil, tokensTo(high, 1, owned(5, 3)))
		// Once its request isn't active, it gives of this one too.
		checkTake(t, own, deactivate(2, 3), acks(2, 3))
		check(t, own.Take(askFrom(high, 2, true), all), nil, gives)
	}
}

// P15.2: a request of its own for a block that it doesn't wait for keeps nothing back.
func TestAskUnderAnOwnRequestThatIsOver(t *testing.T) {
	all := advice.Draws{5, 3}
	for _, policy := range []int{api.PTokenB, api.PScript} {
		idle := holding(t, config(policy), line(2, owned(5, 7)))
		elsewhere := waiting(t, config(policy), store(1, 9), line(2, owned(5, 7)))
		behind := waiting(t, config(policy), store(2, 7), line(2, owned(4, 0)))
		checkTake(t, behind, activate(2, 1, self))
		check(t, behind.Take(tokensFrom(home, 2, some(1)), noDraws), over(1, store(2, 7), 7), tells(2, 1))
		for _, n := range []*Node{idle, elsewhere} {
			checkTake(t, n, activate(2, 1, self), tells(2, 1))
		}
		for _, n := range []*Node{idle, elsewhere, behind} {
			check(t, n.Take(askFrom(low, 2, true), all), nil, tokensTo(low, 2, owned(5, 7)))
			// While it is active still, and the block is waited for anew, it keeps what comes.
			checkTake(t, n, tokensFrom(home, 2, valued(1, 7)))
		}
		for _, n := range []*Node{idle, behind} {
			if _, ok := n.Issue(store(2, 8), noDraws); !ok {
				t.Fatal("an operation isn't taken")
			}
			check(t, n.Take(askFrom(low, 2, true), all), nil)
		}
	}
}

// P15.2: when another node's request becomes active, all tokens of its block go there, with the owner's and the value, if there are any.
func TestActivateOfAnothers(t *testing.T) {
	for _, policy := range policies {
		for _, who := range []int{low, high} {
			for _, b := range []api.Bundle{some(1), some(5), valued(1, 7), valued(4, -7), owned(1, 0), owned(4, math.MinInt64)} {
				idle := holding(t, config(policy), line(0, some(2)), line(2, b))
				busy := waiting(t, config(policy), store(2, 9), line(0, some(2)), line(2, b))
				elsewhere := waiting(t, config(policy), store(0, 9), line(0, some(2)), line(2, b))
				for _, n := range []*Node{idle, busy, elsewhere} {
					want := n.Place()
					want.Lines = []api.Line{line(0, some(2))}
					want.Actives = []api.Active{{Block: 2, Node: who, Seq: 3}}
					check(t, n.Take(activate(2, 3, who), advice.Draws{0, 0}), nil, tokensTo(who, 2, b))
					checkPlace(t, n, want)
				}
			}
			n := holding(t, config(policy), line(0, owned(5, 7)))
			checkTake(t, n, activate(2, 3, who))
			checkActives(t, n, api.Active{Block: 2, Node: who, Seq: 3})
			checkLines(t, n, line(0, owned(5, 7)))
		}
	}
}

// P15.2: a later one of another node's takes the place of an earlier one, its own too, and has the tokens.
func TestActivateOfALaterOne(t *testing.T) {
	n := waiting(t, config(api.PTokenB), store(2, 9), line(2, owned(4, 7)))
	checkTake(t, n, activate(2, 1, self))
	checkTake(t, n, activate(2, 2, high), tokensTo(high, 2, owned(4, 7)))
	checkTake(t, n, activate(2, 5, low))
	checkTake(t, n, tokensFrom(home, 2, some(5)), tokensTo(low, 2, some(5)))
	// A later one of its own lets what comes stay.
	checkTake(t, n, activate(2, 6, self))
	check(t, n.Take(tokensFrom(home, 2, owned(5, 3)), noDraws), over(1, store(2, 9), 9), tells(2, 6))
}

// P15.2: one that the table doesn't take does nothing.
func TestActivateOfAStaleOne(t *testing.T) {
	for _, who := range []int{low, self, high} {
		for _, seq := range []int{1, 2, 3} {
			// Not above the active one, which is its own.
			own := holding(t, config(api.PTokenB), line(2, owned(5, 7)))
			checkTake(t, own, activate(2, 3, self), tells(2, 3))
			// Not above those that are over.
			gone := holding(t, config(api.PTokenB), line(2, owned(5, 7)))
			checkTake(t, gone, deactivate(2, 3), acks(2, 3))
			for _, n := range []*Node{own, gone} {
				place := n.Place()
				checkTake(t, n, activate(2, seq, who))
				checkPlace(t, n, place)
				// Nor does it reach another block.
				if who == self {
					checkTake(t, n, activate(1, seq, who), tells(1, seq))
				} else {
					checkTake(t, n, activate(1, seq, who))
				}
			}
		}
	}
}

// P15.2: when its own becomes active while it waits for an operation on that block, nothing goes; else the end is told at once. Its tokens stay.
func TestActivateOfItsOwn(t *testing.T) {
	for _, policy := range policies {
		for _, seq := range []int{1, 2, math.MaxInt} {
			c := config(policy)
			waits := waiting(t, c, store(2, 9), line(2, owned(4, 7)))
			idle := holding(t, c, line(2, owned(4, 7)))
			elsewhere := waiting(t, c, store(1, 9), line(2, owned(4, 7)))
			zero := waiting(t, c, store(0, 9), line(2, owned(4, 7)))
			for _, n := range []*Node{waits, idle, elsewhere, zero} {
				want := n.Place()
				want.Actives = []api.Active{{Block: 2, Node: self, Seq: seq}}
				if n == waits {
					checkTake(t, n, activate(2, seq, self))
				} else {
					checkTake(t, n, activate(2, seq, self), tells(2, seq))
				}
				checkPlace(t, n, want)
			}
		}
	}
	// Who waits for nothing doesn't wait for block 0.
	checkTake(t, made(t, config(api.PNull), self), activate(0, 1, self), tells(0, 1))
}

// P15.2, P15.3: each LDeactivate is acknowledged, known or not, however often.
func TestDeactivate(t *testing.T) {
	for _, block := range []int{0, 1, 3} {
		for _, seq := range []int{1, 2, 3, 4, math.MaxInt} {
			for _, who := range []int{low, self, high} {
				unknown := holding(t, config(api.PTokenB), line(2, owned(5, 7)))
				known := waiting(t, config(api.PTokenB), store(block, 9), line(2, owned(5, 7)))
				checkTake(t, known, activate(block, 3, who))
				for _, n := range []*Node{unknown, known} {
					want := n.Place()
					if seq >= 3 {
						want.Actives = nil
					}
					for range 3 {
						checkTake(t, n, deactivate(block, seq), acks(block, seq))
						checkPlace(t, n, want)
					}
				}
			}
		}
	}
	// Of this block alone, and what is over doesn't become active again.
	n := made(t, config(api.PNull), self)
	checkTake(t, n, activate(0, 2, high))
	checkTake(t, n, activate(1, 2, high))
	checkTake(t, n, deactivate(0, 2), acks(0, 2))
	checkTake(t, n, activate(0, 2, high))
	checkTake(t, n, activate(0, 1, high))
	checkActives(t, n, api.Active{Block: 1, Node: high, Seq: 2})
	checkTake(t, n, tokensFrom(low, 0, some(1)))
	checkLines(t, n, line(0, some(1)))
}

// orders calls do with each order of so many things.
func orders(count int, do func(order []int)) {
	var follow func(order []int)
	follow = func(order []int) {
		if len(order) == count {
			do(order)
			return
		}
		for x := range count {
			if !slices.Contains(order, x) {
				follow(append(slices.Clone(order), x))
			}
		}
	}
	follow(nil)
}

// P15.2, P15.3: letters about requests come in any order: behind all of them none is active, each LDeactivate was acknowledged, the end of its own was told once if it was ever active there, and its tokens went to the first of another's that was taken.
func TestLettersAboutRequestsInAnyOrder(t *testing.T) {
	letters := []api.Letter{
		activate(2, 1, high), deactivate(2, 1), activate(2, 2, self), deactivate(2, 2), activate(2, 3, low), deactivate(2, 3),
	}
	orders(len(letters), func(order []int) {
		n := holding(t, config(api.PTokenB), line(2, owned(5, 7)))
		held, seen := true, 0 // whether the tokens are there; the greatest Seq that it knows of
		for _, at := range order {
			l := letters[at]
			var want []api.Letter
			switch {
			case l.Kind == api.LDeactivate:
				want = append(want, acks(2, l.Seq))
			case l.Seq <= seen:
			case l.Who == self:
				want = append(want, tells(2, l.Seq))
			case held:
				want, held = append(want, tokensTo(l.Who, 2, owned(5, 7))), false
			}
			seen = max(seen, l.Seq)
			checkTake(t, n, l, want...)
		}
		checkActives(t, n)
		if held {
			checkLines(t, n, line(2, owned(5, 7)))
		} else {
			checkLines(t, n)
		}
	})
}

// P15.2, P15.3: with its operation's end the end of the request is told, once: not with what comes behind it.
func TestEndIsToldOnce(t *testing.T) {
	for _, policy := range policies {
		n := waiting(t, config(policy), load(2))
		checkTake(t, n, activate(2, 4, self))
		check(t, n.Take(tokensFrom(home, 2, owned(5, 7)), noDraws), over(1, load(2), 7), tells(2, 4))
		// The request is active still, and other operations are over meanwhile.
		checkTake(t, n, activate(2, 4, self))
		checkTake(t, n, activate(2, 3, self))
		checkIssue(t, n, store(2, 9), over(2, store(2, 9), 9))
		checkIssue(t, n, load(2), over(3, load(2), 9))
		check(t, n.Take(askFrom(low, 2, true), advice.Draws{5, 3}), nil, givenAway(policy)...)
		if policy != api.PNull {
			if _, ok := n.Issue(load(2), noDraws); !ok {
				t.Fatal("an operation isn't taken")
			}
			checkTake(t, n, activate(2, 4, self))
			check(t, n.Take(tokensFrom(low, 2, owned(5, 8)), noDraws), over(4, load(2), 8))
		}
		checkTake(t, n, tokensFrom(home, 1, some(1)))
		checkTake(t, n, deactivate(2, 4), acks(2, 4))
		checkTake(t, n, activate(2, 4, self))
		// The next request's end is told, once, at once.
		checkTake(t, n, activate(2, 5, self), tells(2, 5))
		checkTake(t, n, activate(2, 5, self))
	}
}

// givenAway is all tokens of block 2, with 9, to the low node, unless the policy gives nothing.
func givenAway(policy int) []api.Letter {
	if policy == api.PNull {
		return nil
	}
	return []api.Letter{tokensTo(low, 2, owned(5, 9))}
}

// P15.2, P15.3: an end that was told at once isn't told again with an operation's end.
func TestEndThatWasToldAtOnce(t *testing.T) {
	n := made(t, config(api.PNull), self)
	checkTake(t, n, activate(2, 4, self), tells(2, 4))
	checkIssue(t, n, load(2), nil)
	checkTake(t, n, activate(2, 4, self))
	check(t, n.Take(tokensFrom(home, 2, owned(5, 7)), noDraws), over(1, load(2), 7))
	// Nor is another block's, or another node's, told with it.
	checkTake(t, n, activate(1, 9, self), tells(1, 9))
	checkTake(t, n, activate(3, 9, high))
	checkIssue(t, n, load(2), over(2, load(2), 7))
}

// P15.2: with an operation's end just the active request of its block is told of, not another's, nor one that was another's place.
func TestEndOfTheActiveOneAlone(t *testing.T) {
	// Two of its own, the later one in the place of the other one.
	n := waiting(t, config(api.PNull), load(2))
	checkTake(t, n, activate(2, 4, self))
	checkTake(t, n, activate(2, 7, self))
	check(t, n.Take(tokensFrom(home, 2, owned(5, 7)), noDraws), over(1, load(2), 7), tells(2, 7))

	// Its own isn't active any more.
	n = waiting(t, config(api.PNull), load(2))
	checkTake(t, n, activate(2, 4, self))
	checkTake(t, n, deactivate(2, 4), acks(2, 4))
	check(t, n.Take(tokensFrom(home, 2, owned(5, 7)), noDraws), over(1, load(2), 7))

	// Ends of several blocks are told by their own numbers.
	c := config(api.PNull)
	c.Ways = 4
	n = made(t, c, self)
	for block := range 4 {
		checkIssue(t, n, load(block), nil)
		checkTake(t, n, activate(block, 9-block, self))
		check(t, n.Take(tokensFrom(home, block, owned(5, 7)), noDraws), over(block+1, load(block), 7), tells(block, 9-block))
	}
}

// P15.2: without an operation a tick is nothing, however many there are.
func TestTickWithoutAnOperation(t *testing.T) {
	for _, policy := range policies {
		n := holding(t, config(policy), line(2, owned(5, 7)))
		place := n.Place()
		for range 200 {
			check(t, n.Tick(advice.Draws{-1, -1, -1}), nil)
		}
		checkPlace(t, n, place)
		checkIssue(t, n, load(2), over(1, load(2), 7))
		check(t, n.Tick(advice.Draws{-1, -1, -1}), nil)
		// Those ticks don't count for the next one.
		if _, ok := n.Issue(load(1), noDraws); !ok {
			t.Fatal("an operation isn't taken")
		}
		checkTick(t, n, persists(1))
	}
}

// P15.2: by the timer it asks again, each time whom that tick's draws tell, and then, once, persistently; it waits still.
func TestTick(t *testing.T) {
	for _, policy := range policies {
		for _, row := range []struct{ wait, tries int }{{1, 0}, {1, 1}, {1, 3}, {2, 0}, {2, 2}, {3, 1}, {64, 0}, {5, 8}} {
			for _, op := range []api.Op{load(2), store(2, 9)} {
				c := config(policy)
				c.Wait, c.Tries = row.wait, row.tries
				n := waiting(t, c, op)
				x := timer.Start(row.wait)
				for at := range timer.Total(row.wait, row.tries) + 50 {
					var do int
					x, do = timer.Tick(x, row.wait, row.tries)
					d := advice.Draws{at, at, at}
					var want []api.Letter
					switch do {
					case 1:
						for _, to := range advice.Targets(c, self, d) {
							want = append(want, askTo(to, 2, op.Write))
						}
					case 2:
						want = append(want, persists(2))
					}
					check(t, n.Tick(d), nil, want...)
					checkPlace(t, n, api.Place{Busy: true, Op: op})
				}
			}
		}
	}
}

// P15.2: it asks persistently for a block once, and not again till the end is told, with an operation's end or at once.
func TestPersistOnceTillTheEndIsTold(t *testing.T) {
	n := waiting(t, config(api.PNull), load(2))
	checkTick(t, n, persists(2))
	checkTick(t, n)
	// That operation is over without the request, and the next one is timed out too.
	check(t, n.Take(tokensFrom(low, 2, owned(5, 7)), noDraws), over(1, load(2), 7))
	checkTake(t, n, activate(2, 1, high), tokensTo(high, 2, owned(5, 7)))
	checkTake(t, n, deactivate(2, 1), acks(2, 1))
	checkIssue(t, n, store(2, 9), nil)
	checkTick(t, n)
	checkTick(t, n)
	// The request serves the second one, and its end is told: the third one is asked for anew.
	checkTake(t, n, activate(2, 2, self))
	checkTick(t, n)
	check(t, n.Take(tokensFrom(high, 2, owned(5, 7)), noDraws), over(2, store(2, 9), 9), tells(2, 2))
	checkTake(t, n, deactivate(2, 2), acks(2, 2))
	checkTake(t, n, activate(2, 3, low), tokensTo(low, 2, owned(5, 9)))
	checkIssue(t, n, load(2), nil)
	checkTick(t, n, persists(2))
	checkTake(t, n, deactivate(2, 3), acks(2, 3))
	check(t, n.Take(tokensFrom(low, 2, valued(1, 9)), noDraws), over(3, load(2), 9))
	// Now the end is told at once, and the fourth one is asked for anew.
	checkTake(t, n, activate(2, 4, self), tells(2, 4))
	checkTake(t, n, deactivate(2, 4), acks(2, 4))
	checkIssue(t, n, store(2, 3), nil)
	checkTick(t, n, persists(2))
}

// P15.2: whether it has asked persistently is of each block by itself.
func TestPersistByBlocks(t *testing.T) {
	c := config(api.PNull)
	c.Ways = 4
	n := made(t, c, self)
	for block := range 4 {
		checkIssue(t, n, load(block), nil)
		checkTick(t, n, persists(block))
		check(t, n.Take(tokensFrom(home, block, owned(5, 7)), noDraws), over(block+1, load(block), 7))
	}
	for block := range 4 {
		checkTake(t, n, activate(block, 1, high), tokensTo(high, block, owned(5, 7)))
		checkTake(t, n, deactivate(block, 1), acks(block, 1))
	}
	checkTake(t, n, activate(2, 2, self), tells(2, 2))
	number := 5
	for _, block := range []int{0, 1, 2, 3, 2} {
		checkIssue(t, n, load(block), nil)
		if block == 2 && number == 7 {
			checkTick(t, n, persists(block))
		} else {
			checkTick(t, n)
		}
		check(t, n.Take(tokensFrom(home, block, valued(1, 7)), noDraws), over(number, load(block), 7))
		number++
		// By this policy no ask takes the token away, so that the block is waited for again: a request does.
		checkTake(t, n, activate(block, 10*number, low), tokensTo(low, block, valued(1, 7)))
		checkTake(t, n, deactivate(block, 10*number), acks(block, 10*number))
	}
}

// P15.2: another node's request, and an end of which it knows by an LDeactivate, don't let it ask again.
func TestPersistIsntForgotten(t *testing.T) {
	n := waiting(t, config(api.PNull), load(2))
	checkTick(t, n, persists(2))
	check(t, n.Take(tokensFrom(low, 2, owned(5, 7)), noDraws), over(1, load(2), 7))
	checkTake(t, n, activate(2, 1, high), tokensTo(high, 2, owned(5, 7)))
	checkTake(t, n, deactivate(2, 1), acks(2, 1))
	checkTake(t, n, deactivate(2, 2), acks(2, 2))
	checkIssue(t, n, load(2), nil)
	checkTake(t, n, activate(2, 2, self))
	checkTick(t, n)
}

// P15.2: Done has the node, which one of it the operation was, the operation as it was issued, its value, and Step 0.
func TestDone(t *testing.T) {
	for _, id := range []int{0, 1, 2} {
		n := made(t, config(api.PNull), id)
		for number := 1; number <= 6; number++ {
			op := api.Op{Block: 3, Write: number%2 == 0, Value: int64(number)}
			value := int64(7)
			if number > 1 {
				value = int64(number - number%2)
			}
			got, _ := n.Issue(op, noDraws)
			if number == 1 {
				check(t, got, nil)
				got = n.Take(api.Letter{Kind: api.LTokens, From: home, To: id, Block: 3, Tokens: owned(5, 7)}, noDraws)
			}
			check(t, got, []api.Done{{Node: id, Number: number, Op: op, Value: value, Step: 0}})
		}
	}
}

// P15.2: what is answered is the caller's own: no later call is to be seen in it, nor it in a later answer.
func TestAnswersAreTheCallers(t *testing.T) {
	n := made(t, config(api.PTokenB), self)
	first, _ := n.Issue(store(2, 9), noDraws)
	want := slices.Clone(first.Letters)
	first.Letters = append(first.Letters[:1], askTo(77, 7, false))
	second := n.Take(tokensFrom(home, 2, owned(5, 7)), noDraws)
	second.Done = append(second.Done, api.Done{Node: 77})
	third, _ := n.Issue(load(1), noDraws)
	for i := range want {
		want[i].Block, want[i].Write = 1, false
	}
	check(t, third, nil, want...)
	if first.Letters[0] != askTo(low, 2, true) || first.Letters[1] != askTo(77, 7, false) {
		t.Errorf("what was answered was changed: %+v", first.Letters)
	}
}
