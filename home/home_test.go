package home

import (
	"math"
	"reflect"
	"slices"
	"testing"

	"jeton/advice"
	"jeton/api"
	"jeton/letter"
)

// Most tests have three nodes, 0 to 2; home comes behind them.
const self = 3

// noDraws advise nothing.
var noDraws advice.Draws

// none is no tokens.
var none api.Bundle

// noRequest is what is told where none is active.
var noRequest api.Active

// policies are all that there are.
var policies = []int{api.PNull, api.PTokenB, api.PScript}

// config has four blocks of five tokens.
func config(policy int) api.Config {
	return api.Config{Nodes: 3, Blocks: 4, Tokens: 5, Sets: 1, Ways: 2, Cap: 9, Wait: 1, Tries: 0, Policy: policy}
}

// some are tokens without the owner's and the value.
func some(count int) api.Bundle { return api.Bundle{Count: count} }

// valued are tokens with a value.
func valued(count int, data int64) api.Bundle {
	return api.Bundle{Count: count, Has: true, Data: data}
}

// owned are tokens with the owner's, and a value.
func owned(count int, data int64) api.Bundle {
	return api.Bundle{Count: count, Owner: true, Has: true, Data: data}
}

// Letters that come home.

func tokensFrom(from, block int, b api.Bundle) api.Letter {
	return api.Letter{Kind: api.LTokens, From: from, To: self, Block: block, Tokens: b}
}

func askFrom(from, block int, write bool) api.Letter {
	return api.Letter{Kind: api.LAsk, From: from, To: self, Block: block, Write: write}
}

func persistFrom(from, block int) api.Letter {
	return api.Letter{Kind: api.LPersist, From: from, To: self, Block: block}
}

func doneFrom(from, block, seq int) api.Letter {
	return api.Letter{Kind: api.LDone, From: from, To: self, Block: block, Seq: seq}
}

func ackFrom(from, block, seq int) api.Letter {
	return api.Letter{Kind: api.LAck, From: from, To: self, Block: block, Seq: seq}
}

// Letters that go from home.

func tokensTo(to, block int, b api.Bundle) api.Letter {
	return api.Letter{Kind: api.LTokens, From: self, To: to, Block: block, Tokens: b}
}

func activate(to, block, seq, who int) api.Letter {
	return api.Letter{Kind: api.LActivate, From: self, To: to, Block: block, Seq: seq, Who: who}
}

func deactivate(to, block, seq int) api.Letter {
	return api.Letter{Kind: api.LDeactivate, From: self, To: to, Block: block, Seq: seq}
}

// activates are what is sent when a request becomes active, ahead of tokens.
func activates(block, seq, who int) []api.Letter {
	return []api.Letter{activate(0, block, seq, who), activate(1, block, seq, who), activate(2, block, seq, who)}
}

// activatesWith are these, and the tokens.
func activatesWith(block, seq, who int, b api.Bundle) []api.Letter {
	return append(activates(block, seq, who), tokensTo(who, block, b))
}

// deactivates are what is sent when a request is over.
func deactivates(block, seq int) []api.Letter {
	return []api.Letter{deactivate(0, block, seq), deactivate(1, block, seq), deactivate(2, block, seq)}
}

// made is a new one.
func made(t *testing.T, c api.Config) *Home {
	t.Helper()
	h, e := New(c)
	if h == nil || e != api.OK {
		t.Fatalf("New(%+v) = %v, %d", c, h, e)
	}
	return h
}

// checkTake tells where what is sent when a letter comes isn't what is wanted.
func checkTake(t *testing.T, h *Home, l api.Letter, want ...api.Letter) {
	t.Helper()
	if got := h.Take(l, noDraws); !slices.Equal(got, want) {
		t.Fatalf("Take(%+v) = %+v, not %+v", l, got, want)
	}
}

// checkTokens tells where another number of blocks, or other tokens of one, are at home.
func checkTokens(t *testing.T, h *Home, want ...api.Bundle) {
	t.Helper()
	if got := h.All(); !slices.Equal(got, want) {
		t.Fatalf("at home are %+v, not %+v", got, want)
	}
}

// checkRequests tells where another request of a block is active (none, if current is noRequest), or others wait.
func checkRequests(t *testing.T, h *Home, block int, current api.Active, waiting ...int) {
	t.Helper()
	if got, ok := h.Current(block); got != current || ok != (current != noRequest) {
		t.Fatalf("Current(%d) = %+v, %t, not %+v", block, got, ok, current)
	}
	if got := h.Waiting(block); !slices.Equal(got, waiting) {
		t.Fatalf("Waiting(%d) = %v, not %v", block, got, waiting)
	}
}

// request is one that is active.
func request(block, node, seq int) api.Active {
	return api.Active{Block: block, Node: node, Seq: seq}
}

// looks are all that a home tells without a letter.
type looks struct {
	tokens  []api.Bundle
	current []api.Active
	waiting [][]int
}

func look(h *Home, blocks int) looks {
	var x looks
	x.tokens = h.All()
	for block := range blocks {
		current, _ := h.Current(block)
		x.current = append(x.current, current)
		x.waiting = append(x.waiting, append([]int{}, h.Waiting(block)...))
	}
	return x
}

// checkLooks tells where a home looks otherwise than wanted.
func checkLooks(t *testing.T, h *Home, want looks) {
	t.Helper()
	if got := look(h, len(want.current)); !reflect.DeepEqual(got, want) {
		t.Fatalf("a home looks %+v, not %+v", got, want)
	}
}

// Homes with block 1 in each state that there is; of it, 4 tokens with 7 are away from the first on.

// atRest has one token of block 1, and the owner's of all others.
func atRest(t *testing.T, policy int) *Home {
	t.Helper()
	h := made(t, config(policy))
	checkTake(t, h, persistFrom(2, 1), activatesWith(1, 1, 2, owned(5, 0))...)
	checkTake(t, h, doneFrom(2, 1, 1), deactivates(1, 1)...)
	for node := range 3 {
		checkTake(t, h, ackFrom(node, 1, 1))
	}
	checkTake(t, h, tokensFrom(2, 1, valued(1, 7)))
	checkTokens(t, h, owned(5, 0), valued(1, 7), owned(5, 0), owned(5, 0))
	checkRequests(t, h, 1, noRequest)
	return h
}

// withActive has node 0's second request of block 1 active, and 2 and 0 wait.
func withActive(t *testing.T, policy int) *Home {
	t.Helper()
	h := atRest(t, policy)
	checkTake(t, h, persistFrom(0, 1), activatesWith(1, 2, 0, valued(1, 7))...)
	checkTake(t, h, persistFrom(2, 1))
	checkTake(t, h, persistFrom(0, 1))
	checkTokens(t, h, owned(5, 0), none, owned(5, 0), owned(5, 0))
	checkRequests(t, h, 1, request(1, 0, 2), 2, 0)
	return h
}

// withEnding has that one ending; node 1 knows it.
func withEnding(t *testing.T, policy int) *Home {
	t.Helper()
	h := withActive(t, policy)
	checkTake(t, h, doneFrom(0, 1, 2), deactivates(1, 2)...)
	checkTake(t, h, ackFrom(1, 1, 2))
	checkTokens(t, h, owned(5, 0), none, owned(5, 0), owned(5, 0))
	checkRequests(t, h, 1, noRequest, 2, 0)
	return h
}

// starts are these, and a new one.
var starts = map[string]func(*testing.T, int) *Home{
	"new": func(t *testing.T, policy int) *Home {
		t.Helper()
		return made(t, config(policy))
	},
	"at rest":     atRest,
	"with active": withActive,
	"with ending": withEnding,
}

// Probes are letters that tell homes from each other of which All, Waiting and Current are the same: who knows of an end, and the last Seq.
var probes = []api.Letter{
	ackFrom(0, 1, 2), ackFrom(1, 1, 2), ackFrom(2, 1, 2), persistFrom(1, 1), persistFrom(1, 0), persistFrom(1, 2),
	persistFrom(1, 3), doneFrom(1, 1, 2), doneFrom(1, 1, 3), doneFrom(1, 0, 1), ackFrom(0, 1, 2), ackFrom(1, 1, 2),
	ackFrom(2, 1, 2), ackFrom(0, 1, 3), ackFrom(1, 1, 3), ackFrom(2, 1, 3), tokensFrom(0, 1, valued(2, 3)),
	tokensFrom(0, 0, some(1)), askFrom(2, 1, false), askFrom(2, 1, true), askFrom(2, 0, true), persistFrom(0, 1),
}

// checkSame tells where two homes don't answer the same; both are used up.
func checkSame(t *testing.T, a, b *Home) {
	t.Helper()
	checkLooks(t, a, look(b, 4))
	for _, l := range probes {
		checkTake(t, a, l, b.Take(l, noDraws)...)
		checkLooks(t, a, look(b, 4))
	}
}

// P16.2: the chapter's example.
func TestExample(t *testing.T) {
	h := made(t, api.Config{Nodes: 2, Blocks: 1, Tokens: 2, Sets: 1, Ways: 1, Cap: 1, Wait: 1})
	checkTake(t, h, api.Letter{Kind: api.LPersist, From: 1, To: 2},
		api.Letter{Kind: api.LActivate, From: 2, To: 0, Seq: 1, Who: 1},
		api.Letter{Kind: api.LActivate, From: 2, To: 1, Seq: 1, Who: 1},
		api.Letter{Kind: api.LTokens, From: 2, To: 1, Tokens: owned(2, 0)})
	checkTokens(t, h, none)
	checkRequests(t, h, 0, request(0, 1, 1))
}

// P16.1: the face is what the chapter lists.
func TestFace(t *testing.T) {
	face := reflect.TypeOf(made(t, config(api.PNull)))
	var names []string
	for i := range face.NumMethod() {
		names = append(names, face.Method(i).Name)
	}
	if want := []string{"All", "Copy", "Current", "Take", "Waiting"}; !slices.Equal(names, want) {
		t.Errorf("a Home has %v, not %v", names, want)
	}
	for _, field := range reflect.VisibleFields(face.Elem()) {
		if field.IsExported() {
			t.Errorf("a Home shows %s", field.Name)
		}
	}
}

// badConfigs may not be: each by one setting.
func badConfigs() []api.Config {
	var all []api.Config
	bad := func(set func(c *api.Config, x int), numbers ...int) {
		for _, x := range append(numbers, math.MinInt, -1, math.MaxInt) {
			c := config(api.PTokenB)
			set(&c, x)
			all = append(all, c)
		}
	}
	bad(func(c *api.Config, x int) { c.Nodes = x }, 0, 6, 64, 65)
	bad(func(c *api.Config, x int) { c.Blocks = x }, 0, 65)
	bad(func(c *api.Config, x int) { c.Tokens = x }, 0, 1, 2, 65537)
	bad(func(c *api.Config, x int) { c.Sets = x }, 0, 65)
	bad(func(c *api.Config, x int) { c.Ways = x }, 0, 17)
	bad(func(c *api.Config, x int) { c.Cap = x }, 0, 65537)
	bad(func(c *api.Config, x int) { c.Wait = x }, 0, 65)
	bad(func(c *api.Config, x int) { c.Tries = x }, -2, 9)
	bad(func(c *api.Config, x int) { c.Policy = x }, -2, 3)
	return append(all, api.Config{})
}

// P16.1: of a configuration that may not be there is no home, whichever error layer 4 tells.
func TestNewOfBadConfigs(t *testing.T) {
	told := map[api.Errno]bool{}
	for _, c := range badConfigs() {
		told[letter.Config(c)] = true
		if h, e := New(c); h != nil || e != api.ErrArg {
			t.Errorf("New(%+v) = %v, %d", c, h, e)
		}
	}
	if len(told) != 4 || told[api.OK] {
		t.Errorf("just %v are tried", told)
	}
}

// goodConfigs may be: at each setting's ends, and between them.
func goodConfigs() []api.Config {
	var all []api.Config
	good := func(set func(c *api.Config, x int), numbers ...int) {
		for _, x := range numbers {
			c := config(api.PTokenB)
			c.Tokens = 64
			set(&c, x)
			all = append(all, c)
		}
	}
	good(func(c *api.Config, x int) { c.Nodes = x }, 1, 2, 63, 64)
	good(func(c *api.Config, x int) { c.Blocks = x }, 1, 2, 63, 64)
	good(func(c *api.Config, x int) { c.Tokens = x }, 3, 4, 65, 65535, 65536)
	good(func(c *api.Config, x int) { c.Sets = x }, 1, 64)
	good(func(c *api.Config, x int) { c.Ways = x }, 1, 16)
	good(func(c *api.Config, x int) { c.Cap = x }, 1, 65536)
	good(func(c *api.Config, x int) { c.Wait = x }, 1, 64)
	good(func(c *api.Config, x int) { c.Tries = x }, 0, 8)
	good(func(c *api.Config, x int) { c.Policy = x }, 0, 1, 2)
	return append(all,
		api.Config{Nodes: 1, Blocks: 1, Tokens: 1, Sets: 1, Ways: 1, Cap: 1, Wait: 1},
		api.Config{Nodes: 64, Blocks: 64, Tokens: 65536, Sets: 64, Ways: 16, Cap: 65536, Wait: 64, Tries: 8, Policy: 2})
}

// outside are numbers of blocks that there aren't.
func outside(blocks int) []int {
	return []int{math.MinInt, math.MinInt32 - 1, -blocks, -1, blocks, blocks + 1, 64, 65, 1 << 32, math.MaxInt}
}

// P16.1: a new home has all tokens of each block, the owner's among them, and the value 0; no request is active, and nobody waits, of blocks that there aren't too.
func TestNew(t *testing.T) {
	for _, c := range goodConfigs() {
		h := made(t, c)
		want := make([]api.Bundle, c.Blocks)
		for block := range want {
			want[block] = owned(c.Tokens, 0)
		}
		checkTokens(t, h, want...)
		for block := range c.Blocks {
			checkRequests(t, h, block, noRequest)
		}
		for _, block := range outside(c.Blocks) {
			checkRequests(t, h, block, noRequest)
		}
		checkTokens(t, h, want...)
	}
}

// P16.1: of blocks that there aren't there is nothing either where there is something of each that there is.
func TestNoSuchBlock(t *testing.T) {
	h := made(t, config(api.PTokenB))
	for block := range 4 {
		checkTake(t, h, persistFrom(1, block), activatesWith(block, 1, 1, owned(5, 0))...)
		checkTake(t, h, persistFrom(2, block))
	}
	for _, block := range outside(4) {
		checkRequests(t, h, block, noRequest)
	}
	for block := range 4 {
		checkRequests(t, h, block, request(block, 1, 1), 2)
	}
}

// P16.1: of the least and the greatest configuration: each node is written to, from 0 on, and gets all tokens; the greatest block and node are as all others.
func TestAtTheLimits(t *testing.T) {
	least := made(t, api.Config{Nodes: 1, Blocks: 1, Tokens: 1, Sets: 1, Ways: 1, Cap: 1, Wait: 1})
	checkTake(t, least, api.Letter{Kind: api.LPersist, From: 0, To: 1},
		api.Letter{Kind: api.LActivate, From: 1, To: 0, Seq: 1, Who: 0},
		api.Letter{Kind: api.LTokens, From: 1, To: 0, Tokens: owned(1, 0)})
	checkTake(t, least, api.Letter{Kind: api.LPersist, From: 0, To: 1})
	checkTake(t, least, api.Letter{Kind: api.LDone, From: 0, To: 1, Seq: 1},
		api.Letter{Kind: api.LDeactivate, From: 1, To: 0, Seq: 1})
	checkTake(t, least, api.Letter{Kind: api.LAck, From: 0, To: 1, Seq: 1},
		api.Letter{Kind: api.LActivate, From: 1, To: 0, Seq: 2, Who: 0})

	greatest := made(t, api.Config{
		Nodes: 64, Blocks: 64, Tokens: 65536, Sets: 64, Ways: 16, Cap: 65536, Wait: 64, Tries: 8, Policy: 2,
	})
	for block := range 64 {
		who := 63 - block
		var want []api.Letter
		for to := range 64 {
			want = append(want, api.Letter{Kind: api.LActivate, From: 64, To: to, Block: block, Seq: 1, Who: who})
		}
		want = append(want, api.Letter{Kind: api.LTokens, From: 64, To: who, Block: block, Tokens: owned(65536, 0)})
		checkTake(t, greatest, api.Letter{Kind: api.LPersist, From: who, To: 64, Block: block}, want...)
		checkRequests(t, greatest, block, request(block, who, 1))
	}
	checkTokens(t, greatest, make([]api.Bundle, 64)...)
	for node := range 63 {
		checkTake(t, greatest, api.Letter{Kind: api.LPersist, From: node, To: 64, Block: 63})
	}
	if got := greatest.Waiting(63); len(got) != 63 || got[62] != 62 {
		t.Errorf("%v wait", got)
	}
}

// goodLetters are one of each kind that may come home, about block 1 in any state.
var goodLetters = []api.Letter{
	tokensFrom(0, 1, some(1)), tokensFrom(2, 1, valued(4, -3)), tokensFrom(1, 1, owned(5, 9)),
	askFrom(0, 1, false), askFrom(2, 1, true), persistFrom(1, 1), doneFrom(0, 1, 2), ackFrom(0, 1, 2), ackFrom(2, 1, 2),
}

// otherwise are letters that differ from one by one field.
func otherwise(l api.Letter) []api.Letter {
	var all []api.Letter
	other := func(set func(l *api.Letter)) {
		x := l
		set(&x)
		all = append(all, x)
	}
	for _, number := range []int{math.MinInt, -1 << 32, -5, -1, 0, 1, 2, 3, 4, 5, 6, 7, 8, 63, 64, 65, 1 << 32, math.MaxInt} {
		other(func(l *api.Letter) { l.Kind = number })
		other(func(l *api.Letter) { l.From = number })
		other(func(l *api.Letter) { l.To = number })
		other(func(l *api.Letter) { l.Block = number })
		other(func(l *api.Letter) { l.Seq = number })
		other(func(l *api.Letter) { l.Who = number })
		other(func(l *api.Letter) { l.Tokens.Count = number })
		other(func(l *api.Letter) { l.Tokens.Data = int64(number) })
	}
	other(func(l *api.Letter) { l.Write = !l.Write })
	other(func(l *api.Letter) { l.Tokens.Owner = !l.Tokens.Owner })
	other(func(l *api.Letter) { l.Tokens.Has = !l.Tokens.Has })
	return append(all, api.Letter{}, api.Letter{To: self}, api.Letter{To: self, Block: 1})
}

// P16.2: nothing comes of letters that may not be on their way, whatever is to be at home, and nothing is changed.
func TestTakeOfLettersThatMayNotBe(t *testing.T) {
	for name, start := range starts {
		for _, policy := range policies {
			h, tried := start(t, policy), 0
			for _, good := range goodLetters {
				for _, l := range otherwise(good) {
					if letter.Check(config(policy), l) == api.OK {
						continue
					}
					tried++
					if got := h.Take(l, advice.Draws{-1, -1, -1}); len(got) != 0 {
						t.Fatalf("%s: Take(%+v) = %+v", name, l, got)
					}
				}
			}
			checkSame(t, h, start(t, policy))
			if tried < 700 {
				t.Errorf("just %d letters are tried", tried)
			}
		}
	}
}

// P16.2: nor of letters of any kind that may be on their way, but not to home, and nothing is changed.
func TestTakeOfLettersToOthers(t *testing.T) {
	var all []api.Letter
	for to := range 3 {
		from := (to + 1) % 3
		all = append(all,
			api.Letter{Kind: api.LTokens, From: from, To: to, Block: 1, Tokens: owned(5, 9)},
			api.Letter{Kind: api.LTokens, From: self, To: to, Block: 1, Tokens: some(1)},
			api.Letter{Kind: api.LAsk, From: from, To: to, Block: 1},
			api.Letter{Kind: api.LAsk, From: from, To: to, Block: 1, Write: true},
			activate(to, 1, 2, 0), activate(to, 1, 3, from), deactivate(to, 1, 2), deactivate(to, 1, 3))
	}
	for name, start := range starts {
		for _, policy := range policies {
			h := start(t, policy)
			for _, l := range all {
				if e := letter.Check(config(policy), l); e != api.OK {
					t.Fatalf("%+v may not be: %d", l, e)
				}
				if got := h.Take(l, advice.Draws{-1, -1, -1}); len(got) != 0 {
					t.Fatalf("%s: Take(%+v) = %+v", name, l, got)
				}
			}
			checkSame(t, h, start(t, policy))
		}
	}
}

// P16.2: whether a letter may be is as the home's own configuration says.
func TestLettersByTheConfiguration(t *testing.T) {
	c := config(api.PTokenB)
	c.Nodes, c.Blocks, c.Tokens = 5, 2, 7
	h := made(t, c)
	for _, l := range []api.Letter{
		tokensFrom(1, 1, some(1)), persistFrom(1, 1), askFrom(1, 1, true), // node 3 is home no more
		{Kind: api.LPersist, From: 5, To: 5}, {Kind: api.LPersist, From: 1, To: 5, Block: 2},
		{Kind: api.LTokens, From: 1, To: 5, Tokens: some(8)},
	} {
		checkTake(t, h, l)
	}
	checkTokens(t, h, owned(7, 0), owned(7, 0))
	checkTake(t, h, api.Letter{Kind: api.LAsk, From: 4, To: 5, Block: 1, Write: true},
		api.Letter{Kind: api.LTokens, From: 5, To: 4, Block: 1, Tokens: owned(7, 0)})
	checkTake(t, h, api.Letter{Kind: api.LTokens, From: 3, To: 5, Block: 1, Tokens: some(7)})
	checkTokens(t, h, owned(7, 0), some(7))
}

// P16.2: tokens come home while no request of the block is active, whoever has that of another one: nothing is sent.
func TestTokensComeHome(t *testing.T) {
	for _, policy := range policies {
		h := atRest(t, policy)
		checkTake(t, h, persistFrom(1, 3), activatesWith(3, 1, 1, owned(5, 0))...)
		steps := []struct{ comes, has api.Bundle }{
			{some(1), valued(2, 7)},
			{valued(1, 8), valued(3, 8)},
			{owned(1, -9), owned(4, -9)},
			{some(1), owned(5, -9)},
		}
		for at, s := range steps {
			checkTake(t, h, tokensFrom(at%3, 1, s.comes))
			checkTokens(t, h, owned(5, 0), s.has, owned(5, 0), none)
			checkRequests(t, h, 1, noRequest)
		}
		// To none, and without a value.
		checkTake(t, h, persistFrom(0, 1), activatesWith(1, 2, 0, owned(5, -9))...)
		checkTake(t, h, doneFrom(0, 1, 2), deactivates(1, 2)...)
		for node := range 3 {
			checkTake(t, h, ackFrom(node, 1, 2))
		}
		checkTake(t, h, tokensFrom(0, 1, some(3)))
		checkTokens(t, h, owned(5, 0), some(3), owned(5, 0), none)
		checkTake(t, h, tokensFrom(1, 1, owned(2, math.MinInt64)))
		checkTokens(t, h, owned(5, 0), owned(5, math.MinInt64), owned(5, 0), none)
	}
}

// P16.2: home takes what comes, also where that is more than there can be.
func TestMoreTokensThanThereCanBe(t *testing.T) {
	h := made(t, config(api.PTokenB))
	checkTake(t, h, tokensFrom(0, 2, owned(5, 4)))
	checkTake(t, h, tokensFrom(1, 2, some(5)))
	checkTokens(t, h, owned(5, 0), owned(5, 0), owned(15, 4), owned(5, 0))
	checkTake(t, h, persistFrom(1, 2), activatesWith(2, 1, 1, owned(15, 4))...)
	checkTokens(t, h, owned(5, 0), owned(5, 0), none, owned(5, 0))
}

// P16.2, P16.3: while a request is active all tokens that come go on to its node, as they are, also those that come from it.
func TestTokensGoOn(t *testing.T) {
	for _, policy := range policies {
		h := withActive(t, policy)
		before := look(h, 4)
		for from := range 3 {
			for _, b := range []api.Bundle{
				some(1), some(5), valued(1, 7), valued(4, math.MaxInt64), valued(2, 0), owned(1, 0), owned(5, math.MinInt64), owned(3, -1),
			} {
				checkTake(t, h, tokensFrom(from, 1, b), tokensTo(0, 1, b))
				checkLooks(t, h, before)
			}
		}
		// Those of another block come home.
		checkTake(t, h, tokensFrom(1, 2, some(1)))
		checkTokens(t, h, owned(5, 0), none, owned(6, 0), owned(5, 0))
	}
}

// P16.2: while one is ending tokens come home; they go with the next one.
func TestTokensWhileEnding(t *testing.T) {
	for _, policy := range policies {
		h := withEnding(t, policy)
		checkTake(t, h, tokensFrom(0, 1, some(2)))
		checkTokens(t, h, owned(5, 0), some(2), owned(5, 0), owned(5, 0))
		checkTake(t, h, tokensFrom(2, 1, owned(1, 6)))
		checkTokens(t, h, owned(5, 0), owned(3, 6), owned(5, 0), owned(5, 0))
		checkTake(t, h, ackFrom(0, 1, 2))
		checkTake(t, h, tokensFrom(0, 1, some(1)))
		checkRequests(t, h, 1, noRequest, 2, 0)
		checkTake(t, h, ackFrom(2, 1, 2), activatesWith(1, 3, 2, owned(4, 6))...)
		checkTokens(t, h, owned(5, 0), none, owned(5, 0), owned(5, 0))
		checkRequests(t, h, 1, request(1, 2, 3), 0)
		checkTake(t, h, tokensFrom(0, 1, some(1)), tokensTo(2, 1, some(1)))
	}
}

// given is a try of what is given to who asks: what was there, what goes, and what stays.
type given struct {
	has         api.Bundle
	write       bool
	draws       advice.Draws
	goes, stays api.Bundle
}

// tryAsk has home have just that of block 1, at rest, and somebody ask for it.
func tryAsk(t *testing.T, policy int, g given) {
	t.Helper()
	for from := range 3 {
		h := atRest(t, policy)
		checkTake(t, h, persistFrom(0, 1), activatesWith(1, 2, 0, valued(1, 7))...)
		checkTake(t, h, doneFrom(0, 1, 2), deactivates(1, 2)...)
		for node := range 3 {
			checkTake(t, h, ackFrom(node, 1, 2))
		}
		if g.has != none {
			checkTake(t, h, tokensFrom(0, 1, g.has))
		}
		var want []api.Letter
		if g.goes != none {
			want = append(want, tokensTo(from, 1, g.goes))
		}
		if got := h.Take(askFrom(from, 1, g.write), g.draws); !slices.Equal(got, want) {
			t.Fatalf("by policy %d, of %+v: %+v, not %+v", policy, g, got, want)
		}
		checkTokens(t, h, owned(5, 0), g.stays, owned(5, 0), owned(5, 0))
		checkRequests(t, h, 1, noRequest)
	}
}

// P16.2: by PTokenB who stores gets all, who loads one, if the owner's is at home: just as few as a load needs.
func TestAskByTokenB(t *testing.T) {
	for _, draws := range []advice.Draws{{}, {-1, -1, -1}, {3, 3, 3}} {
		for _, g := range []given{
			{has: owned(5, 7), goes: valued(1, 7), stays: owned(4, 7)},
			{has: owned(2, -7), goes: valued(1, -7), stays: owned(1, -7)},
			{has: owned(1, 7), goes: owned(1, 7)},
			{has: valued(4, 7), stays: valued(4, 7)},
			{has: some(1), stays: some(1)},
			{},
			{write: true, has: owned(5, 7), goes: owned(5, 7)},
			{write: true, has: owned(1, 7), goes: owned(1, 7)},
			{write: true, has: valued(4, 7), goes: some(4)},
			{write: true, has: some(3), goes: some(3)},
			{write: true},
		} {
			g.draws = draws
			tryAsk(t, api.PTokenB, g)
		}
	}
}

// P16.2: by PScript who asks gets what the draws say, as far as that may be, whether it loads or stores.
func TestAskByScript(t *testing.T) {
	for _, write := range []bool{false, true} {
		for _, g := range []given{
			{has: owned(5, 7), draws: advice.Draws{2, 0, -1}, goes: some(2), stays: owned(3, 7)},
			{has: owned(5, 7), draws: advice.Draws{2, 1, 0}, goes: owned(2, 7), stays: valued(3, 7)},
			{has: owned(5, 7), draws: advice.Draws{2, 2, 5}, goes: valued(2, 7), stays: owned(3, 7)},
			{has: owned(5, 7), draws: advice.Draws{2, 7, 0}, goes: owned(2, 7), stays: valued(3, 7)},
			{has: owned(5, 7), draws: advice.Draws{5, 0, 0}, goes: some(4), stays: owned(1, 7)},
			{has: owned(5, 7), draws: advice.Draws{math.MaxInt, -1, 0}, goes: owned(5, 7)},
			{has: owned(5, 7), draws: advice.Draws{math.MaxInt, -2, 0}, goes: valued(4, 7), stays: owned(1, 7)},
			{has: owned(1, 7), draws: advice.Draws{1, 0, 0}, stays: owned(1, 7)},
			{has: owned(1, 7), draws: advice.Draws{1, 1, 0}, goes: owned(1, 7)},
			{has: valued(3, 7), draws: advice.Draws{2, 3, 0}, goes: valued(2, 7), stays: valued(1, 7)},
			{has: valued(3, 7), draws: advice.Draws{3, 0, 0}, goes: some(3)},
			{has: some(3), draws: advice.Draws{1, 3, 0}, goes: some(1), stays: some(2)},
			{has: owned(5, 7), draws: advice.Draws{0, 3, 9}, stays: owned(5, 7)},
			{has: owned(5, 7), draws: advice.Draws{-1, 3, 0}, stays: owned(5, 7)},
			{has: owned(5, 7), draws: advice.Draws{math.MinInt, -1, -1}, stays: owned(5, 7)},
			{draws: advice.Draws{5, 3, 0}},
		} {
			g.write = write
			tryAsk(t, api.PScript, g)
		}
	}
}

// P16.2: by PNull who asks gets nothing.
func TestAskByNull(t *testing.T) {
	for _, write := range []bool{false, true} {
		for _, draws := range []advice.Draws{{}, {-1, -1, -1}, {5, 3, 0}} {
			for _, has := range []api.Bundle{owned(5, 7), valued(4, 7), some(1), none} {
				tryAsk(t, api.PNull, given{has: has, write: write, draws: draws, stays: has})
			}
		}
	}
}

// P16.2: who asks of a new home; asks are given one after the other as long as there is something.
func TestAsksOneAfterTheOther(t *testing.T) {
	h := made(t, config(api.PTokenB))
	checkTake(t, h, askFrom(0, 2, false), tokensTo(0, 2, valued(1, 0)))
	checkTake(t, h, askFrom(1, 2, false), tokensTo(1, 2, valued(1, 0)))
	checkTake(t, h, askFrom(0, 2, false), tokensTo(0, 2, valued(1, 0)))
	checkTake(t, h, askFrom(0, 2, false), tokensTo(0, 2, valued(1, 0)))
	checkTokens(t, h, owned(5, 0), owned(5, 0), owned(1, 0), owned(5, 0))
	checkTake(t, h, askFrom(2, 2, false), tokensTo(2, 2, owned(1, 0)))
	checkTokens(t, h, owned(5, 0), owned(5, 0), none, owned(5, 0))
	checkTake(t, h, askFrom(1, 2, false))
	checkTake(t, h, askFrom(1, 2, true))
	checkTake(t, h, askFrom(1, 0, true), tokensTo(1, 0, owned(5, 0)))
	checkTokens(t, h, none, owned(5, 0), none, owned(5, 0))
}

// P16.2: with a request active nothing is at home, so nobody gets anything; with one ending they get what came.
func TestAskWithRequests(t *testing.T) {
	for _, policy := range policies {
		h := withActive(t, policy)
		before := look(h, 4)
		for from := range 3 {
			for _, write := range []bool{false, true} {
				if got := h.Take(askFrom(from, 1, write), advice.Draws{5, 3, 0}); len(got) != 0 {
					t.Fatalf("by policy %d %d gets %+v", policy, from, got)
				}
				checkLooks(t, h, before)
			}
		}
	}
	h := withEnding(t, api.PTokenB)
	checkTake(t, h, tokensFrom(0, 1, owned(4, 6)))
	checkTake(t, h, askFrom(1, 1, false), tokensTo(1, 1, valued(1, 6)))
	checkTake(t, h, askFrom(0, 1, true), tokensTo(0, 1, owned(3, 6)))
	checkRequests(t, h, 1, noRequest, 2, 0)
	checkTake(t, h, ackFrom(0, 1, 2))
	checkTake(t, h, ackFrom(2, 1, 2), activates(1, 3, 2)...)
}

// P16.2: a request of each node, and of each block, becomes active at once where none is: each node is told, from 0 on, then its node gets all.
func TestPersist(t *testing.T) {
	for _, policy := range policies {
		for block := range 4 {
			for from := range 3 {
				h := made(t, config(policy))
				want := []api.Bundle{owned(5, 0), owned(5, 0), owned(5, 0), owned(5, 0)}
				want[block] = none
				if got := h.Take(persistFrom(from, block), advice.Draws{-1, -1, -1}); !slices.Equal(got, activatesWith(block, 1, from, owned(5, 0))) {
					t.Fatalf("%d asks for %d: %+v", from, block, got)
				}
				checkTokens(t, h, want...)
				for other := range 4 {
					if other != block {
						checkRequests(t, h, other, noRequest)
					}
				}
				checkRequests(t, h, block, request(block, from, 1))
			}
		}
	}
}

// P16.2: all tokens that are at home go with what becomes active, with the owner's and the value, if these are there; nothing more goes where there are none.
func TestPersistOfWhatIsAtHome(t *testing.T) {
	for _, policy := range policies {
		for _, has := range []api.Bundle{none, some(1), some(4), valued(1, 0), valued(4, -7), owned(1, 7), owned(3, math.MinInt64)} {
			h := atRest(t, policy)
			checkTake(t, h, persistFrom(2, 1), activatesWith(1, 2, 2, valued(1, 7))...)
			checkTake(t, h, doneFrom(2, 1, 2), deactivates(1, 2)...)
			for node := range 3 {
				checkTake(t, h, ackFrom(node, 1, 2))
			}
			want := activates(1, 3, 1)
			if has != none {
				checkTake(t, h, tokensFrom(2, 1, has))
				want = activatesWith(1, 3, 1, has)
			}
			checkTake(t, h, persistFrom(1, 1), want...)
			checkTokens(t, h, owned(5, 0), none, owned(5, 0), owned(5, 0))
			checkRequests(t, h, 1, request(1, 1, 3))
		}
	}
}

// P16.2: who asks while a request is active, or ending, waits behind all others, nothing being sent; so does who is active, or waits already.
func TestPersistWaits(t *testing.T) {
	for _, policy := range policies {
		for name, start := range map[string]func(*testing.T, int) *Home{"active": withActive, "ending": withEnding} {
			h := start(t, policy)
			before, current := h.All(), noRequest
			if name == "active" {
				current = request(1, 0, 2)
			}
			waiting := []int{2, 0}
			for _, from := range []int{1, 0, 0, 2, 1, 1, 2} {
				checkTake(t, h, persistFrom(from, 1))
				waiting = append(waiting, from)
				checkRequests(t, h, 1, current, waiting...)
				checkTokens(t, h, before...)
			}
			// Another block's becomes active at once.
			checkTake(t, h, persistFrom(0, 2), activatesWith(2, 1, 0, owned(5, 0))...)
			checkRequests(t, h, 1, current, waiting...)
			checkRequests(t, h, 2, request(2, 0, 1))
		}
	}
}

// P16.2: the end of what is active is told to each node, from 0 on, whoever tells it: who waits goes on waiting.
func TestDone(t *testing.T) {
	for _, policy := range policies {
		for from := range 3 {
			h := withActive(t, policy)
			before := h.All()
			checkTake(t, h, doneFrom(from, 1, 2), deactivates(1, 2)...)
			checkRequests(t, h, 1, noRequest, 2, 0)
			checkTokens(t, h, before...)
			// It is ending: it doesn't end again.
			for again := range 3 {
				checkTake(t, h, doneFrom(again, 1, 2))
			}
			checkRequests(t, h, 1, noRequest, 2, 0)
			checkTokens(t, h, before...)
		}
	}
}

// P16.2: nothing comes of the end of another Seq, nor of any where none is active: nothing is changed.
func TestDoneOfAnother(t *testing.T) {
	for name, start := range starts {
		for _, policy := range policies {
			h := start(t, policy)
			for _, seq := range []int{1, 2, 3, 4, 64, 1 << 32, math.MaxInt} {
				if name == "with active" && seq == 2 {
					continue
				}
				for from := range 3 {
					checkTake(t, h, doneFrom(from, 1, seq))
				}
			}
			checkSame(t, h, start(t, policy))
		}
	}
}

// orders are all orders of the nodes.
var orders = [][]int{{0, 1, 2}, {0, 2, 1}, {1, 0, 2}, {1, 2, 0}, {2, 0, 1}, {2, 1, 0}}

// P16.2: in whatever order the nodes acknowledge an end, and however often, nothing is sent till the last one does; then the next that waits becomes active, with a greater Seq, and gets what is at home.
func TestAck(t *testing.T) {
	for _, policy := range policies {
		for _, order := range orders {
			for _, has := range []api.Bundle{none, some(2), owned(5, 9)} {
				h := withActive(t, policy)
				checkTake(t, h, doneFrom(0, 1, 2), deactivates(1, 2)...)
				want := activates(1, 3, 2)
				if has != none {
					checkTake(t, h, tokensFrom(1, 1, has))
					want = activatesWith(1, 3, 2, has)
				}
				for at, node := range order[:2] {
					checkTake(t, h, ackFrom(node, 1, 2))
					for _, again := range order[:at+1] {
						checkTake(t, h, ackFrom(again, 1, 2))
					}
					checkRequests(t, h, 1, noRequest, 2, 0)
					checkTokens(t, h, owned(5, 0), has, owned(5, 0), owned(5, 0))
				}
				checkTake(t, h, ackFrom(order[2], 1, 2), want...)
				checkRequests(t, h, 1, request(1, 2, 3), 0)
				checkTokens(t, h, owned(5, 0), none, owned(5, 0), owned(5, 0))
				// Its own end is known by nobody yet.
				for _, node := range order {
					checkTake(t, h, ackFrom(node, 1, 2))
					checkTake(t, h, ackFrom(node, 1, 3))
				}
				checkRequests(t, h, 1, request(1, 2, 3), 0)
			}
		}
	}
}

// P16.2: nothing comes of what is acknowledged of another Seq than that which is ending, nor where none is: nothing is changed.
func TestAckOfAnother(t *testing.T) {
	for name, start := range starts {
		for _, policy := range policies {
			h := start(t, policy)
			for _, seq := range []int{1, 2, 3, 4, 64, 1 << 32, math.MaxInt} {
				if name == "with ending" && seq == 2 {
					continue
				}
				for from := range 3 {
					checkTake(t, h, ackFrom(from, 1, seq))
				}
			}
			checkSame(t, h, start(t, policy))
		}
	}
}

// P16.2: where nobody waits nothing is sent with the last acknowledgement: the block is at rest, and keeps its tokens.
func TestAckWhereNobodyWaits(t *testing.T) {
	for _, order := range orders {
		h := made(t, config(api.PTokenB))
		checkTake(t, h, persistFrom(1, 1), activatesWith(1, 1, 1, owned(5, 0))...)
		checkTake(t, h, doneFrom(1, 1, 1), deactivates(1, 1)...)
		checkTake(t, h, tokensFrom(1, 1, owned(5, 8)))
		for _, node := range order {
			checkTake(t, h, ackFrom(node, 1, 1))
			checkTokens(t, h, owned(5, 0), owned(5, 8), owned(5, 0), owned(5, 0))
			checkRequests(t, h, 1, noRequest)
		}
		// Who asks then is active at once, and nobody had to wait; its Seq is greater.
		checkTake(t, h, persistFrom(order[0], 1), activatesWith(1, 2, order[0], owned(5, 8))...)
	}
}

// P16.2: requests of several blocks play no part for each other, nor do their numbers.
func TestBlocksEachForItself(t *testing.T) {
	h := made(t, config(api.PTokenB))
	checkTake(t, h, persistFrom(0, 0), activatesWith(0, 1, 0, owned(5, 0))...)
	checkTake(t, h, persistFrom(1, 2), activatesWith(2, 1, 1, owned(5, 0))...)
	checkTake(t, h, persistFrom(2, 0))
	checkTake(t, h, persistFrom(0, 2))
	checkTokens(t, h, none, owned(5, 0), none, owned(5, 0))
	// The same Seq is active of two blocks: one of them ends.
	checkTake(t, h, doneFrom(0, 0, 1), deactivates(0, 1)...)
	checkTake(t, h, ackFrom(0, 0, 1))
	checkTake(t, h, ackFrom(1, 0, 1))
	checkTake(t, h, ackFrom(2, 2, 1))
	checkTake(t, h, doneFrom(0, 1, 1))
	checkRequests(t, h, 0, noRequest, 2)
	checkRequests(t, h, 2, request(2, 1, 1), 0)
	// What is of each goes where its own request says.
	checkTake(t, h, tokensFrom(0, 0, owned(2, 4)))
	checkTake(t, h, tokensFrom(0, 2, owned(2, 4)), tokensTo(1, 2, owned(2, 4)))
	checkTake(t, h, askFrom(1, 1, true), tokensTo(1, 1, owned(5, 0)))
	checkTokens(t, h, owned(2, 4), none, none, owned(5, 0))
	checkTake(t, h, ackFrom(2, 0, 1), activatesWith(0, 2, 2, owned(2, 4))...)
	checkRequests(t, h, 2, request(2, 1, 1), 0)
	checkTake(t, h, doneFrom(1, 2, 2))
	checkTake(t, h, doneFrom(1, 2, 1), deactivates(2, 1)...)
	checkRequests(t, h, 0, request(0, 2, 2))
	checkTokens(t, h, none, none, none, owned(5, 0))
}

// P16.1, P16.2: what is told, and sent, is the caller's own, its spare room too.
func TestAnswersAreTheCallersOwn(t *testing.T) {
	for name, start := range starts {
		h := start(t, api.PTokenB)
		for block := range 4 {
			all, waiting := h.All(), h.Waiting(block)
			spoilt := append(all[:cap(all)], owned(9, 9))
			for at := range spoilt {
				spoilt[at] = owned(9, 9)
			}
			others := append(waiting[:cap(waiting)], 9)
			for at := range others {
				others[at] = 9
			}
			_, _ = append(all[:0], owned(8, 8), owned(8, 8)), append(waiting[:0], 8)
		}
		t.Log(name)
		checkSame(t, h, start(t, api.PTokenB))
	}
	h := made(t, config(api.PTokenB))
	for node := range 3 {
		sent := h.Take(persistFrom(node, 2), noDraws)
		clear(sent[:cap(sent)])
	}
	all := h.Take(doneFrom(0, 2, 1), noDraws)
	clear(all[:cap(all)])
	checkRequests(t, h, 2, noRequest, 1, 2)
	for node := range 2 {
		checkTake(t, h, ackFrom(node, 2, 1))
	}
	checkTake(t, h, ackFrom(2, 2, 1), activates(2, 2, 1)...)
}

// P16.1: what was told stays as it was told, whatever comes.
func TestAnswersStay(t *testing.T) {
	h := withActive(t, api.PTokenB)
	all, waiting := h.All(), h.Waiting(1)
	for _, l := range probes {
		h.Take(l, noDraws)
	}
	if want := []api.Bundle{owned(5, 0), none, owned(5, 0), owned(5, 0)}; !slices.Equal(all, want) {
		t.Errorf("what All told is %+v now", all)
	}
	if want := []int{2, 0}; !slices.Equal(waiting, want) {
		t.Errorf("what Waiting told is %v now", waiting)
	}
}

// P16.1: a copy has the same tokens and requests, active, ending (and who knows it), and waiting, and answers the same.
func TestCopyIsLikeIt(t *testing.T) {
	for name, start := range starts {
		for _, policy := range policies {
			t.Log(name, policy)
			checkSame(t, start(t, policy).Copy(), start(t, policy))
			checkSame(t, start(t, policy).Copy().Copy(), start(t, policy))
		}
	}
}

// P16.1: neither a copy nor what it was made of knows what becomes of the other one.
func TestCopiesKnowNothingOfEachOther(t *testing.T) {
	changes := [][]api.Letter{
		{},
		{tokensFrom(0, 1, owned(1, 3))},
		{tokensFrom(0, 0, some(2)), tokensFrom(1, 3, some(1))},
		{askFrom(0, 0, true), askFrom(0, 1, false)},
		{persistFrom(1, 1)},
		{persistFrom(2, 1), persistFrom(2, 0), persistFrom(0, 3)},
		{doneFrom(0, 1, 2)},
		{doneFrom(0, 1, 2), ackFrom(0, 1, 2), ackFrom(1, 1, 2)},
		{ackFrom(0, 1, 2)},
		{ackFrom(0, 1, 2), ackFrom(2, 1, 2), doneFrom(2, 1, 3)},
	}
	for name, start := range starts {
		changed := func(change []api.Letter) *Home {
			h := start(t, api.PTokenB)
			for _, l := range change {
				h.Take(l, noDraws)
			}
			return h
		}
		for at, one := range changes {
			for _, two := range changes {
				t.Log(name, at)
				h := start(t, api.PTokenB)
				c := h.Copy()
				d := c.Copy()
				for _, l := range one {
					h.Take(l, noDraws)
				}
				for _, l := range two {
					c.Take(l, noDraws)
				}
				checkSame(t, c, changed(two))
				checkSame(t, h, changed(one))
				checkSame(t, d, start(t, api.PTokenB))
			}
		}
	}
}
