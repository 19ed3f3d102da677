package letter

import (
	"math"
	"slices"
	"testing"

	"jeton/api"
	"jeton/bundle"
)

// nodeCount and homeAt are those of the configuration by which most letters are checked.
const (
	nodeCount = 3
	homeAt    = 3
)

// plainConfig may be; no two of its numbers that a letter is checked by are equal.
func plainConfig() api.Config {
	return api.Config{Nodes: nodeCount, Blocks: 5, Tokens: 7, Sets: 2, Ways: 2, Cap: 9, Wait: 4, Tries: 2, Policy: api.PTokenB}
}

// edges are numbers around which a wrong comparison, or a wrap-round, shows.
var edges = []int{
	math.MinInt, math.MinInt + 1, -65536, -64, -2, -1, 0, 1, 2, 3, 4, 5, 6, 7, 8,
	63, 64, 65, 65535, 65536, 65537, math.MaxInt - 1, math.MaxInt,
}

var bools = []bool{false, true}

var values = []int64{math.MinInt64, -1, 0, 1, 7, math.MaxInt64}

func one() api.Bundle { return api.Bundle{Count: 1} }

func owned(count int, data int64) api.Bundle {
	return api.Bundle{Count: count, Owner: true, Has: true, Data: data}
}

// asItsRow: of each kind a letter that may be, by plainConfig.
func asItsRow(kind int) api.Letter {
	return map[int]api.Letter{
		api.LTokens:     {Kind: api.LTokens, From: 0, To: homeAt, Block: 1, Tokens: owned(2, 7)},
		api.LAsk:        {Kind: api.LAsk, From: 1, To: 2, Block: 1, Write: true},
		api.LPersist:    {Kind: api.LPersist, From: 1, To: homeAt, Block: 1},
		api.LActivate:   {Kind: api.LActivate, From: homeAt, To: 1, Block: 1, Seq: 4, Who: 2},
		api.LDone:       {Kind: api.LDone, From: 1, To: homeAt, Block: 1, Seq: 4},
		api.LDeactivate: {Kind: api.LDeactivate, From: homeAt, To: 1, Block: 1, Seq: 4},
		api.LAck:        {Kind: api.LAck, From: 1, To: homeAt, Block: 1, Seq: 4},
	}[kind]
}

// kinds are all that there are.
var kinds = []int{api.LTokens, api.LAsk, api.LPersist, api.LActivate, api.LDone, api.LDeactivate, api.LAck}

// noKinds are such that there aren't.
var noKinds = []int{math.MinInt, math.MinInt + 1, -7, -1, 0, 8, 9, 64, math.MaxInt - 1, math.MaxInt}

// bound is what a number of a configuration may be, by itself.
type bound struct {
	name      string
	of        func(c *api.Config) *int
	low, high int
	err       api.Errno
}

// bounds stand in the order in which their errors come; Tokens' low end is that of one node.
var bounds = []bound{
	{"Sets", func(c *api.Config) *int { return &c.Sets }, 1, 64, api.ErrArg},
	{"Ways", func(c *api.Config) *int { return &c.Ways }, 1, 16, api.ErrArg},
	{"Cap", func(c *api.Config) *int { return &c.Cap }, 1, 65536, api.ErrArg},
	{"Wait", func(c *api.Config) *int { return &c.Wait }, 1, 64, api.ErrArg},
	{"Tries", func(c *api.Config) *int { return &c.Tries }, 0, 8, api.ErrArg},
	{"Policy", func(c *api.Config) *int { return &c.Policy }, 0, 2, api.ErrArg},
	{"Nodes", func(c *api.Config) *int { return &c.Nodes }, 1, 64, api.ErrNodes},
	{"Blocks", func(c *api.Config) *int { return &c.Blocks }, 1, 64, api.ErrBlock},
	{"Tokens", func(c *api.Config) *int { return &c.Tokens }, 1, 65536, api.ErrCount},
}

// leastConfig is the least that may be, at the low end of all its bounds.
func leastConfig() api.Config {
	return api.Config{Nodes: 1, Blocks: 1, Tokens: 1, Sets: 1, Ways: 1, Cap: 1, Wait: 1}
}

// greatestConfig is at the high end of all bounds.
func greatestConfig() api.Config {
	return api.Config{Nodes: 64, Blocks: 64, Tokens: 65536, Sets: 64, Ways: 16, Cap: 65536, Wait: 64, Tries: 8, Policy: 2}
}

// P4.1
func TestConfigAtItsBounds(t *testing.T) {
	for _, c := range []api.Config{plainConfig(), leastConfig(), greatestConfig()} {
		if e := Config(c); e != api.OK {
			t.Errorf("Config(%+v) = %d", c, e)
		}
	}
	if e := Config(api.Config{}); e != api.ErrArg {
		t.Errorf("Config of nothing = %d", e)
	}
	for _, b := range bounds {
		for _, x := range append(slices.Clone(edges), 9, 10, 15, 16, 17) {
			c := leastConfig()
			c.Tokens = 64 // enough for as many nodes as may be
			*b.of(&c) = x
			want := api.OK
			if x < b.low || x > b.high {
				want = b.err
			}
			if e := Config(c); e != want {
				t.Errorf("%s %d: Config = %d, want %d", b.name, x, e, want)
			}
		}
	}
}

// P4.1: there is a token for each node, at least.
func TestConfigTokensFromNodesOn(t *testing.T) {
	rows := []struct {
		nodes, tokens int
		want          api.Errno
	}{
		{1, 0, api.ErrCount},
		{1, 1, api.OK},
		{2, 1, api.ErrCount},
		{2, 2, api.OK},
		{2, 65536, api.OK},
		{2, 65537, api.ErrCount},
		{64, 63, api.ErrCount},
		{64, 64, api.OK},
		{64, 65, api.OK},
		{64, 65536, api.OK},
		{64, 65537, api.ErrCount},
		{64, -1, api.ErrCount},
		{64, math.MinInt, api.ErrCount},
		{64, math.MaxInt, api.ErrCount},
		// the nodes' error comes first, whatever the tokens are
		{0, 0, api.ErrNodes},
		{-1, -1, api.ErrNodes},
		{65, 65, api.ErrNodes},
		{65, 64, api.ErrNodes},
		{math.MinInt, math.MinInt, api.ErrNodes},
		{math.MaxInt, math.MaxInt, api.ErrNodes},
	}
	for _, r := range rows {
		c := leastConfig()
		c.Nodes, c.Tokens = r.nodes, r.tokens
		if e := Config(c); e != r.want {
			t.Errorf("%d nodes, %d tokens: Config = %d, want %d", r.nodes, r.tokens, e, r.want)
		}
	}
}

// P4.1: of several errors that apply, the first.
func TestConfigFirstError(t *testing.T) {
	for wrong := range 1 << len(bounds) {
		for _, below := range bools {
			c := greatestConfig()
			want := api.OK
			for i := len(bounds) - 1; i >= 0; i-- {
				b := bounds[i]
				if wrong>>i&1 == 0 {
					continue
				}
				*b.of(&c) = b.high + 1
				if below {
					*b.of(&c) = b.low - 1
				}
				want = b.err
			}
			if e := Config(c); e != want {
				t.Fatalf("Config(%+v) = %d, want %d", c, e, want)
			}
		}
	}
}

// P4.2
func TestCheckOfEachKind(t *testing.T) {
	for _, kind := range kinds {
		if e := Check(plainConfig(), asItsRow(kind)); e != api.OK {
			t.Errorf("kind %d: Check = %d", kind, e)
		}
	}
}

// P4.2: kinds that there aren't come first, whatever else is wrong.
func TestCheckNoKinds(t *testing.T) {
	for _, kind := range noKinds {
		for _, like := range kinds {
			l := asItsRow(like)
			l.Kind = kind
			if e := Check(plainConfig(), l); e != api.ErrKind {
				t.Errorf("kind %d: Check = %d", kind, e)
			}
			if e := Check(api.Config{}, l); e != api.ErrKind {
				t.Errorf("kind %d, no configuration: Check = %d", kind, e)
			}
		}
		wrong := api.Letter{Kind: kind, From: -1, To: -1, Block: -1, Seq: -1, Who: -1, Write: true, Tokens: api.Bundle{Count: -1}}
		if e := Check(plainConfig(), wrong); e != api.ErrKind {
			t.Errorf("kind %d, all wrong: Check = %d", kind, e)
		}
	}
}

// P4.2
func TestCheckBlocks(t *testing.T) {
	for _, kind := range kinds {
		for _, block := range edges {
			l := asItsRow(kind)
			l.Block = block
			want := api.ErrBlock
			if slices.Contains([]int{0, 1, 2, 3, 4}, block) {
				want = api.OK
			}
			if e := Check(plainConfig(), l); e != want {
				t.Errorf("kind %d, block %d: Check = %d, want %d", kind, block, e, want)
			}
		}
	}
}

// mayGo tells, by words, from where to where letters go; n is a node, h home.
var mayGo = map[int][]string{
	api.LTokens:     {"nn", "nh", "hn"},
	api.LAsk:        {"nn", "nh"},
	api.LPersist:    {"nh"},
	api.LActivate:   {"hn"},
	api.LDone:       {"nh"},
	api.LDeactivate: {"hn"},
	api.LAck:        {"nh"},
}

// party is n of a node, h of home, and else nobody.
func party(x, nodes int) string {
	for i := 0; i < nodes && i <= api.MaxNodes; i++ {
		if x == i {
			return "n"
		}
	}
	if x == nodes {
		return "h"
	}
	return "?"
}

// P4.2: letters from and to nodes, home, nobody and oneself.
func TestCheckFromAndTo(t *testing.T) {
	for _, kind := range kinds {
		for _, from := range edges {
			for _, to := range edges {
				l := asItsRow(kind)
				l.From, l.To = from, to
				want := api.ErrTo
				if from != to && slices.Contains(mayGo[kind], party(from, nodeCount)+party(to, nodeCount)) {
					want = api.OK
				}
				if e := Check(plainConfig(), l); e != want {
					t.Errorf("kind %d from %d to %d: Check = %d, want %d", kind, from, to, e, want)
				}
			}
		}
	}
}

// P4.2: Seq is 1 or more where the row names it, and else 0.
func TestCheckSeq(t *testing.T) {
	named := []int{api.LActivate, api.LDone, api.LDeactivate, api.LAck}
	for _, kind := range kinds {
		for _, seq := range edges {
			l := asItsRow(kind)
			l.Seq = seq
			want := api.ErrForm
			if slices.Contains(named, kind) && seq >= 1 || !slices.Contains(named, kind) && seq == 0 {
				want = api.OK
			}
			if e := Check(plainConfig(), l); e != want {
				t.Errorf("kind %d, Seq %d: Check = %d, want %d", kind, seq, e, want)
			}
		}
	}
}

// P4.2: Who is a node in an LActivate, and else 0.
func TestCheckWho(t *testing.T) {
	for _, kind := range kinds {
		for _, who := range edges {
			l := asItsRow(kind)
			l.Who = who
			want := api.ErrForm
			if kind == api.LActivate && party(who, nodeCount) == "n" || who == 0 {
				want = api.OK
			}
			if e := Check(plainConfig(), l); e != want {
				t.Errorf("kind %d, Who %d: Check = %d, want %d", kind, who, e, want)
			}
		}
	}
}

// P4.2: only asks may be for a store.
func TestCheckWrite(t *testing.T) {
	for _, kind := range kinds {
		for _, write := range bools {
			l := asItsRow(kind)
			l.Write = write
			want := api.ErrForm
			if kind == api.LAsk || !write {
				want = api.OK
			}
			if e := Check(plainConfig(), l); e != want {
				t.Errorf("kind %d, Write %t: Check = %d, want %d", kind, write, e, want)
			}
		}
	}
}

// everyBundle calls f with tokens of all shapes, such that can't be among them.
func everyBundle(f func(api.Bundle)) {
	for _, count := range edges {
		for _, owner := range bools {
			for _, has := range bools {
				for _, data := range values {
					f(api.Bundle{Count: count, Owner: owner, Has: has, Data: data})
				}
			}
		}
	}
}

// P4.2: the edges that the words name.
func TestCheckTokens(t *testing.T) {
	rows := []struct {
		b    api.Bundle
		want api.Errno
	}{
		{one(), api.OK},
		{api.Bundle{Count: 7}, api.OK},
		{api.Bundle{Count: 1, Has: true}, api.OK},
		{api.Bundle{Count: 3, Has: true, Data: -7}, api.OK},
		{owned(1, 0), api.OK},
		{owned(7, math.MinInt64), api.OK},
		{owned(7, math.MaxInt64), api.OK},
		{api.Bundle{}, api.ErrCount},
		{api.Bundle{Count: 8}, api.ErrCount},
		{api.Bundle{Count: -1}, api.ErrCount},
		{owned(8, 7), api.ErrCount},
		{api.Bundle{Count: math.MinInt}, api.ErrCount},
		{api.Bundle{Count: math.MaxInt}, api.ErrCount},
		// no token, but what only a token has: bundle's error, not that there is none
		{api.Bundle{Owner: true}, api.ErrOwner},
		{api.Bundle{Has: true}, api.ErrOwner},
		{owned(0, 7), api.ErrOwner},
		{api.Bundle{Data: 7}, api.ErrData},
		{api.Bundle{Count: 1, Owner: true}, api.ErrData},
		{api.Bundle{Count: 1, Data: 7}, api.ErrData},
		{api.Bundle{Count: 7, Data: math.MinInt64}, api.ErrData},
	}
	for _, r := range rows {
		if e := Check(plainConfig(), Tokens(0, 1, 0, r.b)); e != r.want {
			t.Errorf("%+v: Check = %d, want %d", r.b, e, r.want)
		}
	}
}

// P4.2: of an LTokens bundle's error, by so many tokens as there are; no others may have any.
func TestCheckTokensOfAllShapes(t *testing.T) {
	for _, tokens := range edges {
		c := plainConfig()
		c.Tokens = tokens
		everyBundle(func(b api.Bundle) {
			for _, kind := range kinds {
				l := asItsRow(kind)
				l.Tokens = b
				want := bundle.Check(b, tokens)
				if kind == api.LTokens && b == (api.Bundle{}) {
					want = api.ErrCount
				}
				if kind != api.LTokens {
					want = api.ErrData
				}
				if kind != api.LTokens && b == (api.Bundle{}) {
					want = api.OK
				}
				if e := Check(c, l); e != want {
					t.Fatalf("kind %d, of %d tokens %+v: Check = %d, want %d", kind, tokens, b, e, want)
				}
			}
		})
	}
}

// fault makes one thing of a letter wrong.
type fault struct {
	spoil func(l *api.Letter)
	err   api.Errno
}

// P4.2: of several errors that apply, the first.
func TestCheckFirstError(t *testing.T) {
	faults := []fault{
		{func(l *api.Letter) { l.Kind = 8 }, api.ErrKind},
		{func(l *api.Letter) { l.Block = 5 }, api.ErrBlock},
		{func(l *api.Letter) { l.From = 4 }, api.ErrTo},
		{func(l *api.Letter) { l.To = l.From }, api.ErrTo},
		{func(l *api.Letter) { l.Seq = -1 }, api.ErrForm},
		{func(l *api.Letter) { l.Who = -1 }, api.ErrForm},
	}
	for _, kind := range kinds {
		all := faults
		if kind != api.LAsk {
			all = append(slices.Clone(all), fault{func(l *api.Letter) { l.Write = true }, api.ErrForm})
		}
		last := fault{func(l *api.Letter) { l.Tokens = api.Bundle{Count: -1} }, api.ErrData}
		if kind == api.LTokens {
			last.err = api.ErrCount
		}
		all = append(slices.Clone(all), last)
		for wrong := range 1 << len(all) {
			l, want := asItsRow(kind), api.OK
			for i := len(all) - 1; i >= 0; i-- {
				if wrong>>i&1 == 1 {
					all[i].spoil(&l)
					want = all[i].err
				}
			}
			if e := Check(plainConfig(), l); e != want {
				t.Fatalf("Check(%+v) = %d, want %d", l, e, want)
			}
		}
	}
}

// P4.2: configurations that may not be are taken as they are.
func TestCheckOddNodes(t *testing.T) {
	rows := []struct {
		nodes, kind, from, to int
		want                  api.Errno
	}{
		// home alone: nobody is another one
		{0, api.LTokens, 0, 0, api.ErrTo},
		{0, api.LTokens, 0, 1, api.ErrTo},
		{0, api.LAsk, 0, 1, api.ErrTo},
		{0, api.LPersist, 0, 0, api.ErrTo},
		{0, api.LDeactivate, 0, 0, api.ErrTo},
		{-1, api.LTokens, -1, 0, api.ErrTo},
		{-1, api.LTokens, -1, -1, api.ErrTo},
		{-1, api.LTokens, 0, -1, api.ErrTo},
		{-1, api.LPersist, 0, -1, api.ErrTo},
		{math.MinInt, api.LTokens, math.MinInt, 0, api.ErrTo},
		{math.MinInt, api.LTokens, 0, math.MinInt, api.ErrTo},
		{math.MinInt, api.LTokens, math.MaxInt, math.MinInt, api.ErrTo},
		{math.MinInt, api.LAsk, math.MaxInt, 0, api.ErrTo},
		// more nodes than may be
		{65, api.LTokens, 64, 65, api.OK},
		{65, api.LTokens, 65, 64, api.OK},
		{65, api.LAsk, 64, 63, api.OK},
		{65, api.LAsk, 65, 63, api.ErrTo},
		{65, api.LTokens, 65, 66, api.ErrTo},
		{math.MaxInt, api.LTokens, math.MaxInt, math.MaxInt - 1, api.OK},
		{math.MaxInt, api.LTokens, math.MaxInt - 1, math.MaxInt, api.OK},
		{math.MaxInt, api.LAsk, math.MaxInt - 1, 0, api.OK},
		{math.MaxInt, api.LAsk, math.MaxInt, 0, api.ErrTo},
		{math.MaxInt, api.LAsk, math.MinInt, 0, api.ErrTo},
		{math.MaxInt, api.LPersist, 64, math.MaxInt, api.OK},
		{math.MaxInt, api.LDeactivate, math.MaxInt, 64, api.OK},
		// one node
		{1, api.LTokens, 0, 1, api.OK},
		{1, api.LTokens, 1, 0, api.OK},
		{1, api.LAsk, 0, 1, api.OK},
		{1, api.LAsk, 0, 0, api.ErrTo},
	}
	for _, r := range rows {
		c := plainConfig()
		c.Nodes = r.nodes
		l := asItsRow(r.kind)
		l.From, l.To = r.from, r.to
		if e := Check(c, l); e != r.want {
			t.Errorf("%d nodes: kind %d from %d to %d: Check = %d, want %d", r.nodes, r.kind, r.from, r.to, e, r.want)
		}
	}
}

// P4.2: an activation may be for any node that there is, be there more than may be.
func TestCheckWhoOfOddNodes(t *testing.T) {
	for _, nodes := range edges {
		for _, who := range edges {
			l := api.Letter{Kind: api.LActivate, From: nodes, To: 0, Seq: 1, Who: who}
			c := plainConfig()
			c.Nodes = nodes
			want := api.OK
			if who < 0 || who >= nodes {
				want = api.ErrForm
			}
			if nodes < 1 {
				want = api.ErrTo
			}
			if e := Check(c, l); e != want {
				t.Errorf("%d nodes, Who %d: Check = %d, want %d", nodes, who, e, want)
			}
		}
	}
}

// P4.2: configurations that may not be, of blocks.
func TestCheckOddBlocks(t *testing.T) {
	for _, blocks := range edges {
		for _, block := range edges {
			c := plainConfig()
			c.Blocks = blocks
			want := api.ErrBlock
			if block >= 0 && block < blocks {
				want = api.OK
			}
			if e := Check(c, Tokens(0, 1, block, one())); e != want {
				t.Errorf("%d blocks, block %d: Check = %d, want %d", blocks, block, e, want)
			}
		}
	}
}

// P4.2: nothing of a configuration but its nodes, blocks and tokens plays a part.
func TestCheckTakesTheOthersAsTheyAre(t *testing.T) {
	for _, x := range edges {
		c := plainConfig()
		c.Sets, c.Ways, c.Cap, c.Wait, c.Tries, c.Policy = x, x, x, x, x, x
		for _, kind := range kinds {
			if e := Check(c, asItsRow(kind)); e != api.OK {
				t.Errorf("all others %d: kind %d: Check = %d", x, kind, e)
			}
		}
	}
}

// P4.2: only asks may be lost, whatever else they have.
func TestDrops(t *testing.T) {
	for _, kind := range append(slices.Clone(noKinds), kinds...) {
		for _, like := range kinds {
			l := asItsRow(like)
			l.Kind = kind
			if got := Drops(l); got != (kind == 2) {
				t.Errorf("kind %d: Drops = %t", kind, got)
			}
		}
	}
}

// P4.3
func TestTokens(t *testing.T) {
	for _, from := range edges {
		for _, to := range edges {
			for _, block := range edges {
				for _, b := range []api.Bundle{{}, one(), owned(3, 7), {Count: math.MinInt, Data: math.MaxInt64}} {
					want := api.Letter{Kind: 1, From: from, To: to, Block: block, Tokens: b}
					if got := Tokens(from, to, block, b); got != want {
						t.Fatalf("Tokens = %+v, want %+v", got, want)
					}
				}
			}
		}
	}
	// the chapter's example
	c := plainConfig()
	c.Nodes = 2
	if e := Check(c, Tokens(0, 2, 1, one())); e != api.OK {
		t.Errorf("one token from node 0 to home 2: Check = %d", e)
	}
	if e := Check(c, api.Letter{Kind: api.LAsk, From: 1, To: 1}); e != api.ErrTo {
		t.Errorf("an ask to itself: Check = %d", e)
	}
}

// P4.3: tokens of all shapes go as they are.
func TestTokensOfAllShapes(t *testing.T) {
	everyBundle(func(b api.Bundle) {
		want := api.Letter{Kind: 1, From: 2, To: 3, Block: 4, Tokens: b}
		if got := Tokens(2, 3, 4, b); got != want {
			t.Fatalf("Tokens = %+v, want %+v", got, want)
		}
	})
}

// P4.3: to no node, to one, to 64 and to more.
func TestSpreadNodes(t *testing.T) {
	for _, nodes := range edges {
		got := Spread(api.LActivate, 3, 1, 5, 2, nodes)
		want := 0
		if nodes > 0 {
			want = nodes
		}
		if nodes > 64 {
			want = 64
		}
		if len(got) != want {
			t.Errorf("to %d nodes: %d letters, want %d", nodes, len(got), want)
		}
		for to, l := range got {
			if (l != api.Letter{Kind: 4, From: 3, To: to, Block: 1, Seq: 5, Who: 2}) {
				t.Errorf("to %d nodes: the letter at %d is %+v", nodes, to, l)
			}
		}
	}
}

// P4.3: whatever is spread, it is told as it was handed in, to the one who sends it too.
func TestSpreadOfAnyNumbers(t *testing.T) {
	for _, kind := range append(slices.Clone(noKinds), kinds...) {
		for _, x := range edges {
			rows := []api.Letter{
				{Kind: kind, From: x, Block: 1, Seq: 2, Who: 3},
				{Kind: kind, From: 1, Block: x, Seq: 2, Who: 3},
				{Kind: kind, From: 1, Block: 2, Seq: x, Who: 3},
				{Kind: kind, From: 1, Block: 2, Seq: 3, Who: x},
			}
			for _, want := range rows {
				got := Spread(want.Kind, want.From, want.Block, want.Seq, want.Who, 3)
				if len(got) != 3 {
					t.Fatalf("Spread of %+v: %d letters", want, len(got))
				}
				for to, l := range got {
					want.To = to
					if l != want {
						t.Fatalf("the letter at %d is %+v, want %+v", to, l, want)
					}
				}
			}
		}
	}
}

// P4.3: what home spreads may be on its way.
func TestSpreadMayBeOnItsWay(t *testing.T) {
	c := greatestConfig()
	for _, l := range append(Spread(api.LActivate, 64, 63, 1, 63, 64), Spread(api.LDeactivate, 64, 0, 9, 0, 64)...) {
		if e := Check(c, l); e != api.OK {
			t.Errorf("Check(%+v) = %d", l, e)
		}
	}
}

// P4.3: what is answered is new memory.
func TestSpreadIsNew(t *testing.T) {
	first := Spread(api.LActivate, 3, 1, 5, 2, 3)
	clear(first[:cap(first)])
	second := Spread(api.LActivate, 3, 1, 5, 2, 3)
	clear(first[:cap(first)])
	for to, l := range second {
		if (l != api.Letter{Kind: 4, From: 3, To: to, Block: 1, Seq: 5, Who: 2}) {
			t.Errorf("the letter at %d is %+v", to, l)
		}
	}
}

// P4.2, P4.3: what is checked and told hangs on nothing that was told ahead of it.
func TestTheSameAgain(t *testing.T) {
	for range 2 {
		for _, kind := range kinds {
			if e := Check(plainConfig(), asItsRow(kind)); e != api.OK {
				t.Errorf("kind %d: Check = %d", kind, e)
			}
			if e := Check(plainConfig(), api.Letter{Kind: kind, From: -1}); e != api.ErrTo {
				t.Errorf("kind %d from nobody: Check = %d", kind, e)
			}
		}
	}
}
