package world

import (
	"math"
	"reflect"
	"slices"
	"testing"

	"jeton/api"
)

// Most tests have three nodes, 0 to 2; home comes behind them.
const homeOf3 = 3

// none is no tokens.
var none api.Bundle

// policies are all that there are.
var policies = []int{api.PNull, api.PTokenB, api.PScript}

// config has four blocks of five tokens, and waits for no second try.
func config(policy int) api.Config {
	return api.Config{Nodes: 3, Blocks: 4, Tokens: 5, Sets: 1, Ways: 2, Cap: 99, Wait: 1, Tries: 0, Policy: policy}
}

// small has two nodes, and a block of two tokens.
func small(policy, room int) api.Config {
	return api.Config{Nodes: 2, Blocks: 1, Tokens: 2, Sets: 1, Ways: 1, Cap: room, Wait: 1, Tries: 0, Policy: policy}
}

// some are tokens without the owner's and the value.
func some(count int) api.Bundle { return api.Bundle{Count: count} }

// valued are tokens with a value.
func valued(count int, data int64) api.Bundle {
	return api.Bundle{Count: count, Has: true, Data: data}
}

// owned are tokens with the owner's, and a value.
func owned(count int, data int64) api.Bundle {
	return api.Bundle{Count: count, Owner: true, Has: true, Data: data}
}

// Entries.

func load(node, block int) api.Entry { return api.Entry{Kind: api.EOp, A: node, B: block} }

func store(node, block, value int) api.Entry {
	return api.Entry{Kind: api.EOp, A: node, B: block, C: 1, D: value}
}

func deliver(at int) api.Entry { return api.Entry{Kind: api.EDeliver, A: at} }

func drop(at int) api.Entry { return api.Entry{Kind: api.EDrop, A: at} }

// tick is advised by nothing.
var tick = api.Entry{Kind: api.ETick}

// advised is an entry with its advice.
func advised(e api.Entry, b, c, d int) api.Entry {
	e.B, e.C, e.D = b, c, d
	return e
}

// Letters that go between three nodes and home.

func tokens(from, to, block int, b api.Bundle) api.Letter {
	return api.Letter{Kind: api.LTokens, From: from, To: to, Block: block, Tokens: b}
}

func ask(from, to, block int, write bool) api.Letter {
	return api.Letter{Kind: api.LAsk, From: from, To: to, Block: block, Write: write}
}

func persist(from, block int) api.Letter {
	return api.Letter{Kind: api.LPersist, From: from, To: homeOf3, Block: block}
}

func activate(to, block, seq, who int) api.Letter {
	return api.Letter{Kind: api.LActivate, From: homeOf3, To: to, Block: block, Seq: seq, Who: who}
}

func told(from, block, seq int) api.Letter {
	return api.Letter{Kind: api.LDone, From: from, To: homeOf3, Block: block, Seq: seq}
}

func deactivate(to, block, seq int) api.Letter {
	return api.Letter{Kind: api.LDeactivate, From: homeOf3, To: to, Block: block, Seq: seq}
}

func ack(from, block, seq int) api.Letter {
	return api.Letter{Kind: api.LAck, From: from, To: homeOf3, Block: block, Seq: seq}
}

// made is a new one.
func made(t *testing.T, c api.Config) *World {
	t.Helper()
	w, e := New(c)
	if w == nil || e != api.OK {
		t.Fatalf("New(%+v) = %v, %d", c, w, e)
	}
	return w
}

// checkStep tells where something else than wanted comes of an entry, or is over with it.
func checkStep(t *testing.T, w *World, e api.Entry, want int, over ...api.Done) {
	t.Helper()
	if got, done := w.Step(e); got != want || !slices.Equal(done, over) {
		t.Fatalf("of %+v comes %d, %+v, not %d, %+v", e, got, done, want, over)
	}
}

// play has entries done, and answers what is over with them.
func play(t *testing.T, w *World, all ...api.Entry) []api.Done {
	t.Helper()
	var over []api.Done
	for _, e := range all {
		got, done := w.Step(e)
		if got != api.RDone {
			t.Fatalf("of %+v comes %d, with %+v on their way", e, got, w.Shot().Flight)
		}
		over = append(over, done...)
	}
	return over
}

// come has the first letter of a kind that is to somebody, about a block, come.
func come(t *testing.T, w *World, kind, to, block int) []api.Done {
	t.Helper()
	at := slices.IndexFunc(w.Shot().Flight, func(l api.Letter) bool {
		return l.Kind == kind && l.To == to && l.Block == block
	})
	if at < 0 {
		t.Fatalf("no such letter is on its way: %+v", w.Shot().Flight)
	}
	return play(t, w, deliver(at))
}

// drain has all letters come, the first one first, till none is on its way.
func drain(t *testing.T, w *World) []api.Done {
	t.Helper()
	var over []api.Done
	for range 10000 {
		if len(w.Shot().Flight) == 0 {
			return over
		}
		over = append(over, play(t, w, deliver(0))...)
	}
	t.Fatalf("letters go for ever: %+v", w.Shot().Flight)
	return nil
}

// tidy is a shot with nil for each list without elements, since the two are one.
func tidy(s api.Shot) api.Shot {
	s.Nodes, s.Home, s.Flight = orNil(s.Nodes), orNil(s.Home), orNil(s.Flight)
	for at := range s.Nodes {
		s.Nodes[at].Lines, s.Nodes[at].Actives = orNil(s.Nodes[at].Lines), orNil(s.Nodes[at].Actives)
	}
	return s
}

func orNil[T any](all []T) []T {
	if len(all) == 0 {
		return nil
	}
	return all
}

func look(w *World) api.Shot { return tidy(w.Shot()) }

// checkShot tells where a world looks otherwise than wanted.
func checkShot(t *testing.T, w *World, want api.Shot) {
	t.Helper()
	if got, want := look(w), tidy(want); !reflect.DeepEqual(got, want) {
		t.Fatalf("it looks as %+v, not as %+v", got, want)
	}
}

// checkFlight tells where others are on their way, or in another order.
func checkFlight(t *testing.T, w *World, want ...api.Letter) {
	t.Helper()
	if got := w.Shot().Flight; !slices.Equal(got, want) {
		t.Fatalf("on their way are %+v, not %+v", got, want)
	}
}

// checkLines tells where a node has other lines.
func checkLines(t *testing.T, w *World, node int, want ...api.Line) {
	t.Helper()
	if got := w.Shot().Nodes[node].Lines; !slices.Equal(got, want) {
		t.Fatalf("at node %d are %+v, not %+v", node, got, want)
	}
}

// checkHome tells where other tokens of one block are at home.
func checkHome(t *testing.T, w *World, block int, want api.Bundle) {
	t.Helper()
	if got := w.Shot().Home[block]; got != want {
		t.Fatalf("of block %d there are %+v at home, not %+v", block, got, want)
	}
}

// probes are entries that tell worlds from each other of which the shots are the same: what the processors' timers, the asked and the told, and home's arbiter are at.
func probes(nodes, blocks int) []api.Entry {
	all := []api.Entry{advised(tick, 15, 3, 0), tick}
	for at := range 60 {
		all = append(all, advised(deliver(at%3), at%4, 3, 0))
		if at%4 == 0 {
			all = append(all, advised(tick, at%16, at%4, 0))
		}
		if at%3 == 0 {
			all = append(all, store(at/3%nodes, at/2%blocks, at), load((at/3+1)%nodes, at%blocks))
		}
	}
	return all
}

// checkSame tells where two worlds (but for their steps, by so many as b has more) look, or answer, otherwise; neither is used up.
func checkSame(t *testing.T, a, b *World, more int) {
	t.Helper()
	a, b = a.Copy(), b.Copy()
	check := func(what any) {
		t.Helper()
		x, y := look(a), look(b)
		y.Steps -= more
		if !reflect.DeepEqual(x, y) {
			t.Fatalf("%v: one looks as %+v, the other one as %+v", what, x, y)
		}
	}
	check("at first")
	for _, e := range probes(a.config.Nodes, a.config.Blocks) {
		x, xDone := a.Step(e)
		y, yDone := b.Step(e)
		for at := range yDone {
			yDone[at].Step -= more
		}
		if x != y || !slices.Equal(xDone, yDone) {
			t.Fatalf("of %+v comes %d, %+v with one, %d, %+v with the other one", e, x, xDone, y, yDone)
		}
		check(e)
	}
}

// checkStays tells where something else than the steps is changed by an entry of which comes just that.
func checkStays(t *testing.T, w *World, e api.Entry, want int) {
	t.Helper()
	before := w.Copy()
	checkStep(t, w, e, want)
	checkSame(t, before, w, 1)
}

// Worlds with something of each kind.

// asking has node 0 wait for a store of block 1, and node 2 for a load of it, with all asks that the policy has on their way.
func asking(t *testing.T, policy int) *World {
	t.Helper()
	w := made(t, config(policy))
	play(t, w, store(0, 1, 7), load(2, 1))
	return w
}

// crowded has a letter of each kind on its way (but asks, by PNull), one request ending, two active, and one on its way home.
func crowded(t *testing.T, policy int) *World {
	t.Helper()
	c := config(policy)
	c.Tries = 1
	w := made(t, c)
	wants := func(e api.Entry) {
		t.Helper()
		all := advised(tick, 15, 0, 0)
		play(t, w, e, all, all, all)
	}
	begin := func(node, block int) {
		t.Helper()
		come(t, w, api.LPersist, homeOf3, block)
		come(t, w, api.LActivate, node, block)
		come(t, w, api.LTokens, node, block)
	}
	wants(store(0, 0, 5))
	begin(0, 0)
	come(t, w, api.LDone, homeOf3, 0)
	come(t, w, api.LDeactivate, 1, 0)
	wants(store(1, 1, 6))
	begin(1, 1)
	wants(store(2, 2, 7))
	come(t, w, api.LPersist, homeOf3, 2)
	wants(load(0, 3))
	play(t, w, store(1, 0, 8))
	return w
}

// starts are these, and a new one.
var starts = map[string]func(*testing.T, int) *World{
	"new": func(t *testing.T, policy int) *World {
		t.Helper()
		return made(t, config(policy))
	},
	"asking":  asking,
	"crowded": crowded,
}

// P17.2: a world with each kind of letter is what the tests that follow take it for.
func TestCrowded(t *testing.T) {
	for _, policy := range policies {
		w, kinds := crowded(t, policy), map[int]bool{}
		for _, l := range w.Shot().Flight {
			kinds[l.Kind] = true
		}
		if len(kinds) != api.Letters && (policy != api.PNull || len(kinds) != api.Letters-1) {
			t.Errorf("by policy %d just %v are on their way", policy, kinds)
		}
	}
}

// P17.1, P17.2: the chapter's example.
func TestExample(t *testing.T) {
	w := made(t, small(api.PNull, 9))
	checkStep(t, w, load(0, 0), api.RDone)
	checkFlight(t, w)
	checkStep(t, w, tick, api.RDone)
	checkFlight(t, w, api.Letter{Kind: api.LPersist, From: 0, To: 2})
	checkStep(t, w, deliver(0), api.RDone)
	checkFlight(t, w,
		api.Letter{Kind: api.LActivate, From: 2, To: 0, Seq: 1, Who: 0},
		api.Letter{Kind: api.LActivate, From: 2, To: 1, Seq: 1, Who: 0},
		api.Letter{Kind: api.LTokens, From: 2, To: 0, Tokens: owned(2, 0)})
	checkHome(t, w, 0, none)
}

// P17.2: the document's first three examples: a store by the tokens of home, a load by one of them.
func TestExamplesOfTheWhole(t *testing.T) {
	w := made(t, small(api.PTokenB, 9))
	checkStep(t, w, store(0, 0, 7), api.RDone)
	checkFlight(t, w, ask(0, 1, 0, true), ask(0, 2, 0, true))
	checkStep(t, w, deliver(1), api.RDone)
	checkFlight(t, w, ask(0, 1, 0, true), tokens(2, 0, 0, owned(2, 0)))
	checkStep(t, w, drop(0), api.RDone)
	checkStep(t, w, deliver(0), api.RDone, api.Done{Node: 0, Number: 1, Op: api.Op{Write: true, Value: 7}, Value: 7, Step: 4})
	checkStep(t, w, load(1, 0), api.RDone)
	checkFlight(t, w, ask(1, 0, 0, false), ask(1, 2, 0, false))
	checkStep(t, w, deliver(0), api.RDone)
	checkFlight(t, w, ask(1, 2, 0, false), tokens(0, 1, 0, valued(1, 7)))
	checkStep(t, w, deliver(1), api.RDone, api.Done{Node: 1, Number: 1, Value: 7, Step: 7})
	checkShot(t, w, api.Shot{
		Steps: 7,
		Nodes: []api.Place{
			{Lines: []api.Line{{Tokens: owned(1, 7)}}},
			{Lines: []api.Line{{Tokens: valued(1, 7)}}},
		},
		Home:   []api.Bundle{none},
		Flight: []api.Letter{ask(1, 2, 0, false)},
	})
}

// P17.1: the face is what the chapter lists.
func TestFace(t *testing.T) {
	face := reflect.TypeOf(made(t, config(api.PNull)))
	var names []string
	for i := range face.NumMethod() {
		names = append(names, face.Method(i).Name)
	}
	if want := []string{"Copy", "Shot", "Step"}; !slices.Equal(names, want) {
		t.Errorf("a World has %v, not %v", names, want)
	}
	for _, field := range reflect.VisibleFields(face.Elem()) {
		if field.IsExported() {
			t.Errorf("a World shows %s", field.Name)
		}
	}
}

// badConfigs may not be, by one setting each: by layer 4's errors.
func badConfigs() map[api.Config]api.Errno {
	all := map[api.Config]api.Errno{{}: api.ErrArg}
	bad := func(e api.Errno, set func(c *api.Config, x int), numbers ...int) {
		for _, x := range append(numbers, math.MinInt, math.MaxInt) {
			c := config(api.PTokenB)
			set(&c, x)
			all[c] = e
		}
	}
	bad(api.ErrNodes, func(c *api.Config, x int) { c.Nodes = x }, -1, 0, 65)
	bad(api.ErrBlock, func(c *api.Config, x int) { c.Blocks = x }, -1, 0, 65)
	bad(api.ErrCount, func(c *api.Config, x int) { c.Tokens = x }, -1, 0, 1, 2, 65537)
	bad(api.ErrCount, func(c *api.Config, x int) { c.Nodes, c.Tokens = 64, min(x, 63) }, 5)
	bad(api.ErrArg, func(c *api.Config, x int) { c.Sets = x }, -1, 0, 65)
	bad(api.ErrArg, func(c *api.Config, x int) { c.Ways = x }, -1, 0, 17)
	bad(api.ErrArg, func(c *api.Config, x int) { c.Cap = x }, -1, 0, 65537)
	bad(api.ErrArg, func(c *api.Config, x int) { c.Wait = x }, -1, 0, 65)
	bad(api.ErrArg, func(c *api.Config, x int) { c.Tries = x }, -1, 9)
	bad(api.ErrArg, func(c *api.Config, x int) { c.Policy = x }, -1, 3)
	bad(api.ErrArg, func(c *api.Config, x int) { c.Policy, c.Nodes = x, 0 }, 3)
	bad(api.ErrNodes, func(c *api.Config, x int) { c.Nodes, c.Blocks, c.Tokens = x, x, x }, 0)
	bad(api.ErrBlock, func(c *api.Config, x int) { c.Blocks, c.Tokens = x, 0 }, 0)
	return all
}

// P17.1: of a configuration that may not be there is no world: layer 4's error, which comes first of several.
func TestNewOfBadConfigs(t *testing.T) {
	for c, want := range badConfigs() {
		if w, e := New(c); w != nil || e != want {
			t.Errorf("New(%+v) = %v, %d, not %d", c, w, e, want)
		}
	}
}

// goodConfigs may be: at each setting's ends, and between them.
func goodConfigs() []api.Config {
	var all []api.Config
	good := func(set func(c *api.Config, x int), numbers ...int) {
		for _, x := range numbers {
			c := config(api.PTokenB)
			c.Tokens = 64
			set(&c, x)
			all = append(all, c)
		}
	}
	good(func(c *api.Config, x int) { c.Nodes = x }, 1, 2, 63, 64)
	good(func(c *api.Config, x int) { c.Blocks = x }, 1, 2, 63, 64)
	good(func(c *api.Config, x int) { c.Tokens = x }, 3, 4, 65, 65535, 65536)
	good(func(c *api.Config, x int) { c.Sets = x }, 1, 64)
	good(func(c *api.Config, x int) { c.Ways = x }, 1, 16)
	good(func(c *api.Config, x int) { c.Cap = x }, 1, 65536)
	good(func(c *api.Config, x int) { c.Wait = x }, 1, 64)
	good(func(c *api.Config, x int) { c.Tries = x }, 0, 8)
	good(func(c *api.Config, x int) { c.Policy = x }, 0, 1, 2)
	return append(all,
		api.Config{Nodes: 1, Blocks: 1, Tokens: 1, Sets: 1, Ways: 1, Cap: 1, Wait: 1},
		api.Config{Nodes: 64, Blocks: 64, Tokens: 65536, Sets: 64, Ways: 16, Cap: 65536, Wait: 64, Tries: 8, Policy: 2})
}

// P17.1: in a new world nothing was done: no step, no tick; nothing is at any node, all tokens are at home, none on their way.
func TestNew(t *testing.T) {
	for _, c := range goodConfigs() {
		want := api.Shot{Nodes: make([]api.Place, c.Nodes)}
		for range c.Blocks {
			want.Home = append(want.Home, owned(c.Tokens, 0))
		}
		checkShot(t, made(t, c), want)
	}
}

// P17.1: a shot tells what is at each node, at home and on its way.
func TestShot(t *testing.T) {
	w := made(t, config(api.PTokenB))
	play(t, w, store(1, 2, 7), deliver(2), deliver(2), load(2, 2), deliver(3))
	checkStep(t, w, deliver(4), api.RDone, api.Done{Node: 2, Number: 1, Op: api.Op{Block: 2}, Value: 7, Step: 6})
	play(t, w, store(0, 3, -1), tick)
	come(t, w, api.LPersist, homeOf3, 3)
	come(t, w, api.LActivate, 0, 3)
	come(t, w, api.LActivate, 2, 3)
	checkShot(t, w, api.Shot{
		Steps: 11, Ticks: 1,
		Nodes: []api.Place{
			{Busy: true, Op: api.Op{Block: 3, Write: true, Value: -1}, Actives: []api.Active{{Block: 3, Node: 0, Seq: 1}}},
			{Lines: []api.Line{{Block: 2, Tokens: owned(4, 7)}}},
			{Lines: []api.Line{{Block: 2, Tokens: valued(1, 7)}}, Actives: []api.Active{{Block: 3, Node: 0, Seq: 1}}},
		},
		Home: []api.Bundle{owned(5, 0), owned(5, 0), none, none},
		Flight: []api.Letter{
			ask(1, 0, 2, true), ask(1, 2, 2, true), ask(2, 0, 2, false), ask(2, 3, 2, false),
			ask(0, 1, 3, true), ask(0, 2, 3, true), ask(0, 3, 3, true),
			activate(1, 3, 1, 0), tokens(3, 0, 3, owned(5, 0)),
		},
	})
}

// notLegal are entries that may bring nothing about, whatever the world (of three nodes and four blocks).
func notLegal() []api.Entry {
	var all []api.Entry
	for _, kind := range []int{math.MinInt, -1, 0, 5, 6, 7, 9, 1 << 32, math.MaxInt} {
		all = append(all, api.Entry{Kind: kind}, api.Entry{Kind: kind, A: 1, B: 2, C: 1, D: 9})
	}
	for _, x := range []int{math.MinInt, -1, 4, 64, 1 << 32, math.MaxInt} {
		all = append(all, load(x, 0), store(x, 0, 1), load(0, x), store(0, x, 1))
		all = append(all, api.Entry{Kind: api.EOp, A: 1, B: 1, C: x})
	}
	all = append(all, load(3, 0), store(3, 0, 1), api.Entry{Kind: api.EOp, A: 1, B: 1, C: 2})
	for _, x := range []int{math.MinInt, -2, -1} {
		all = append(all, deliver(x), drop(x))
	}
	return all
}

// P17.2, P17.3: nothing comes of what isn't legal, whatever there is: the steps alone are one more.
func TestNotLegal(t *testing.T) {
	for name, start := range starts {
		for _, policy := range policies {
			t.Log(name, policy)
			w := start(t, policy)
			for _, e := range notLegal() {
				checkStays(t, w, e, api.RNothing)
			}
		}
	}
}

// P17.2, P17.3: nothing comes of an operation of a node that waits, whether it is the same one or not.
func TestOpWhileOneWaits(t *testing.T) {
	for _, policy := range policies {
		w := asking(t, policy)
		for _, node := range []int{0, 2} {
			for block := range 4 {
				checkStays(t, w, load(node, block), api.RNothing)
				checkStays(t, w, store(node, block, 7), api.RNothing)
			}
		}
		checkStep(t, w, load(1, 0), api.RDone)
		checkStays(t, w, load(1, 0), api.RNothing)
	}
}

// P17.2, P17.3: nothing comes, nor is lost, at a place where there is no letter.
func TestNoSuchLetter(t *testing.T) {
	for name, start := range starts {
		for _, policy := range policies {
			t.Log(name, policy)
			w := start(t, policy)
			count := len(w.Shot().Flight)
			for _, at := range []int{count, count + 1, 98, 99, 100, 65536, 1 << 32, math.MaxInt} {
				checkStays(t, w, deliver(at), api.RNothing)
				checkStays(t, w, drop(at), api.RNothing)
			}
		}
	}
}

// P17.2, P17.3: an ask is lost, wherever it is; what may not be lost isn't.
func TestDrop(t *testing.T) {
	for _, policy := range policies {
		for at, l := range crowded(t, policy).Shot().Flight {
			w := crowded(t, policy)
			if l.Kind != api.LAsk {
				checkStays(t, w, drop(at), api.RNothing)
				continue
			}
			want := w.Shot()
			checkStep(t, w, advised(drop(at), 3, 3, 3), api.RDone)
			want.Steps++
			want.Flight = slices.Delete(want.Flight, at, at+1)
			checkShot(t, w, want)
		}
	}
}

// P17.2: each node's load and store that can't be done yet is waited for; by policy it asks, with draws of 0.
func TestOpWaits(t *testing.T) {
	for _, policy := range policies {
		for node := range 3 {
			for block := range 4 {
				for _, e := range []api.Entry{load(node, block), store(node, block, 0), store(node, block, 15), store(node, block, -1)} {
					w := made(t, config(policy))
					want := look(w)
					checkStep(t, w, e, api.RDone)
					want.Steps = 1
					want.Nodes[node] = api.Place{Busy: true, Op: api.Op{Block: block, Write: e.C == 1, Value: int64(e.D)}}
					for to := range 4 {
						if policy == api.PTokenB && to != node {
							want.Flight = append(want.Flight, ask(node, to, block, e.C == 1))
						}
					}
					checkShot(t, w, want)
				}
			}
		}
	}
}

// P17.2: a load's D is of no meaning; a store's is its value, from the least int to the greatest.
func TestOpsValues(t *testing.T) {
	for _, d := range []int{math.MinInt, -1, 0, 1, 1 << 40, math.MaxInt} {
		w := made(t, config(api.PTokenB))
		play(t, w, api.Entry{Kind: api.EOp, A: 0, B: 1, D: d}, store(1, 1, d))
		if got := w.Shot().Nodes[0].Op; got != (api.Op{Block: 1}) {
			t.Errorf("node 0 waits for %+v", got)
		}
		come(t, w, api.LAsk, homeOf3, 1) // that of node 0
		come(t, w, api.LTokens, 0, 1)
		come(t, w, api.LAsk, homeOf3, 1)
		come(t, w, api.LTokens, 1, 1)
		come(t, w, api.LAsk, 0, 1)
		over := come(t, w, api.LTokens, 1, 1)
		if want := []api.Done{{Node: 1, Number: 1, Op: api.Op{Block: 1, Write: true, Value: int64(d)}, Value: int64(d), Step: 8}}; !slices.Equal(over, want) {
			t.Errorf("%+v is over, not %+v", over, want)
		}
	}
}

// P17.2: an operation that can be done at once is over with its entry; nothing is sent, and the node doesn't wait.
func TestOpAtOnce(t *testing.T) {
	for _, policy := range policies {
		for node := range 3 {
			w := made(t, config(policy))
			play(t, w, store(node, 1, 7), tick)
			come(t, w, api.LPersist, homeOf3, 1)
			drain(t, w)
			steps := w.Shot().Steps
			op := api.Op{Block: 1, Write: true, Value: 9}
			checkStep(t, w, load(node, 1), api.RDone, api.Done{Node: node, Number: 2, Op: api.Op{Block: 1}, Value: 7, Step: steps + 1})
			checkStep(t, w, store(node, 1, 9), api.RDone, api.Done{Node: node, Number: 3, Op: op, Value: 9, Step: steps + 2})
			checkStep(t, w, load(node, 1), api.RDone, api.Done{Node: node, Number: 4, Op: api.Op{Block: 1}, Value: 9, Step: steps + 3})
			checkFlight(t, w)
			checkLines(t, w, node, api.Line{Block: 1, Tokens: owned(5, 9)})
			if w.Shot().Nodes[node].Busy {
				t.Errorf("node %d waits", node)
			}
		}
	}
}

// P17.2: the step of what is over counts all entries, also those of which nothing came, and those that were refused.
func TestStepOfWhatIsOver(t *testing.T) {
	c := config(api.PTokenB)
	c.Cap = 5
	w := made(t, c)
	checkStep(t, w, api.Entry{Kind: 9}, api.RNothing)
	checkStep(t, w, store(0, 0, 7), api.RDone)
	checkStep(t, w, store(0, 0, 7), api.RNothing)
	checkStep(t, w, load(1, 0), api.RRefused)
	checkStep(t, w, deliver(2), api.RDone)
	checkStep(t, w, drop(2), api.RNothing)
	checkStep(t, w, deliver(2), api.RDone, api.Done{Node: 0, Number: 1, Op: api.Op{Write: true, Value: 7}, Value: 7, Step: 7})
	checkStep(t, w, deliver(7), api.RNothing)
	checkStep(t, w, load(0, 0), api.RDone, api.Done{Node: 0, Number: 2, Value: 7, Step: 9})
}

// P17.2: where several are over with one step, each is so with that step, in order.
func TestSeveralInOneStep(t *testing.T) {
	w := made(t, config(api.PTokenB))
	play(t, w, tick, tick)
	got := w.dated([]api.Done{{Node: 2, Number: 3}, {Node: 0, Number: 9, Value: 4}, {Node: 1}})
	if want := []api.Done{{Node: 2, Number: 3, Step: 2}, {Node: 0, Number: 9, Value: 4, Step: 2}, {Node: 1, Step: 2}}; !slices.Equal(got, want) {
		t.Errorf("%+v are over, not %+v", got, want)
	}
}

// P17.2: a letter comes from any place; what is sent with it goes behind all others, whose order stays.
func TestDeliverAtAnyPlace(t *testing.T) {
	all := []api.Letter{
		ask(0, 1, 1, true), ask(0, 2, 1, true), ask(0, 3, 1, true), ask(2, 0, 1, false), ask(2, 1, 1, false), ask(2, 3, 1, false),
	}
	for at, l := range all {
		w := asking(t, api.PTokenB)
		checkFlight(t, w, all...)
		checkStep(t, w, deliver(at), api.RDone)
		want := slices.Delete(slices.Clone(all), at, at+1)
		if l.To == homeOf3 && l.Write {
			want = append(want, tokens(3, 0, 1, owned(5, 0)))
		} else if l.To == homeOf3 {
			want = append(want, tokens(3, 2, 1, valued(1, 0)))
		}
		checkFlight(t, w, want...)
	}
}

// P17.2: each kind of letter does at a node, or at home, what chapters 15 and 16 say, and is gone.
func TestDeliverOfEachKind(t *testing.T) {
	w := made(t, config(api.PNull))
	play(t, w, store(0, 1, 7), store(1, 1, 8), tick)
	checkFlight(t, w, persist(0, 1), persist(1, 1))
	play(t, w, deliver(0))
	checkFlight(t, w, persist(1, 1), activate(0, 1, 1, 0), activate(1, 1, 1, 0), activate(2, 1, 1, 0), tokens(3, 0, 1, owned(5, 0)))
	play(t, w, deliver(0), deliver(0), deliver(1))
	if got := w.Shot().Nodes[2].Actives; !slices.Equal(got, []api.Active{{Block: 1, Node: 0, Seq: 1}}) {
		t.Fatalf("node 2 knows of %+v", got)
	}
	checkFlight(t, w, activate(1, 1, 1, 0), tokens(3, 0, 1, owned(5, 0)))
	checkStep(t, w, deliver(1), api.RDone, api.Done{Node: 0, Number: 1, Op: api.Op{Block: 1, Write: true, Value: 7}, Value: 7, Step: 8})
	checkFlight(t, w, activate(1, 1, 1, 0), told(0, 1, 1))
	play(t, w, deliver(1))
	checkFlight(t, w, activate(1, 1, 1, 0), deactivate(0, 1, 1), deactivate(1, 1, 1), deactivate(2, 1, 1))
	play(t, w, deliver(1), deliver(1), deliver(1), deliver(0))
	checkFlight(t, w, ack(0, 1, 1), ack(1, 1, 1), ack(2, 1, 1))
	play(t, w, deliver(1), deliver(1))
	checkFlight(t, w, ack(0, 1, 1))
	play(t, w, deliver(0))
	checkFlight(t, w, activate(0, 1, 2, 1), activate(1, 1, 2, 1), activate(2, 1, 2, 1))
	play(t, w, deliver(0))
	checkFlight(t, w, activate(1, 1, 2, 1), activate(2, 1, 2, 1), tokens(0, 1, 1, owned(5, 7)))
	checkStep(t, w, deliver(2), api.RDone, api.Done{Node: 1, Number: 1, Op: api.Op{Block: 1, Write: true, Value: 8}, Value: 8, Step: 18})
	play(t, w, deliver(1))
	checkFlight(t, w, activate(1, 1, 2, 1))
	play(t, w, deliver(0))
	checkFlight(t, w, told(1, 1, 2))
	drain(t, w)
	checkLines(t, w, 1, api.Line{Block: 1, Tokens: owned(5, 8)})
	for node, p := range w.Shot().Nodes {
		if p.Busy || len(p.Actives) > 0 {
			t.Errorf("at node %d is %+v", node, p)
		}
	}
}

// P17.2: a delivery's B, C and D advise what is given, at home and at nodes; a tick's advise who is asked.
func TestAdvice(t *testing.T) {
	c := config(api.PScript)
	c.Tries = 8
	for _, a := range []struct {
		b, c int
		want api.Bundle
	}{
		{0, 3, none}, {1, 0, some(1)}, {2, 1, owned(2, 0)}, {3, 2, valued(3, 0)}, {5, 0, some(4)}, {5, 1, owned(5, 0)}, {math.MaxInt, -1, owned(5, 0)}, {-1, 3, none},
	} {
		w := made(t, c)
		play(t, w, store(0, 1, 7), advised(tick, 8, 0, 0))
		checkFlight(t, w, ask(0, 3, 1, true))
		play(t, w, advised(deliver(0), a.b, a.c, 7))
		if a.want == none {
			checkFlight(t, w)
		} else {
			checkFlight(t, w, tokens(3, 0, 1, a.want))
		}
	}
	w := made(t, c)
	play(t, w, store(0, 1, 7), advised(tick, 8, 0, 0), advised(deliver(0), 5, 3, 0), deliver(0))
	play(t, w, load(1, 1), advised(tick, 7, 0, 0))
	checkFlight(t, w, ask(1, 0, 1, false), ask(1, 2, 1, false))
	play(t, w, advised(deliver(0), 2, 2, 0))
	checkFlight(t, w, ask(1, 2, 1, false), tokens(0, 1, 1, valued(2, 7)))

	c.Nodes, c.Tokens = 64, 64
	for at := range 65 {
		if at == 5 {
			continue
		}
		w, draws := made(t, c), [3]int{}
		draws[at/64] = int(uint64(1) << (at % 64))
		play(t, w, load(5, 1), advised(tick, draws[0], draws[1], draws[2]))
		checkFlight(t, w, ask(5, at, 1, false))
	}
}

// P17.2: with a tick each node's processor ticks, from 0 on, and what they send goes in that order; those that don't wait send nothing.
func TestTick(t *testing.T) {
	for _, policy := range policies {
		c := config(policy)
		c.Wait, c.Tries = 2, 1
		w := made(t, c)
		play(t, w, store(2, 1, 7), tick, load(0, 3))
		for len(w.Shot().Flight) > 0 {
			play(t, w, drop(0))
		}
		asks := func(node, block int, write bool) []api.Letter {
			var all []api.Letter
			for to := range 4 {
				if to != node && (policy == api.PTokenB || policy == api.PScript && to != 1) {
					all = append(all, ask(node, to, block, write))
				}
			}
			return all
		}
		first := advised(tick, 1|4|8, 0, 0)
		play(t, w, first)
		checkFlight(t, w, asks(2, 1, true)...)
		play(t, w, first)
		checkFlight(t, w, append(asks(2, 1, true), asks(0, 3, false)...)...)
		for len(w.Shot().Flight) > 0 {
			play(t, w, drop(0))
		}
		play(t, w, first, first)
		checkFlight(t, w)
		play(t, w, first)
		checkFlight(t, w, persist(2, 1))
		play(t, w, first)
		checkFlight(t, w, persist(2, 1), persist(0, 3))
		if got := w.Shot().Ticks; got != 7 {
			t.Errorf("%d ticks", got)
		}
	}
	w := made(t, config(api.PNull))
	play(t, w, load(2, 0), load(0, 1), store(1, 2, 7), tick)
	checkFlight(t, w, persist(0, 1), persist(1, 2), persist(2, 0))
	play(t, w, tick, tick)
	checkFlight(t, w, persist(0, 1), persist(1, 2), persist(2, 0))
}

// P17.2: a tick is done also where nobody waits, and nothing is on its way; just ticks are counted as such.
func TestTicksAreCounted(t *testing.T) {
	w := made(t, config(api.PTokenB))
	for at := range 100 {
		play(t, w, advised(tick, at, -at, math.MinInt))
		checkStep(t, w, deliver(0), api.RNothing)
		if s := w.Shot(); s.Ticks != at+1 || s.Steps != 2*at+2 || len(s.Flight) > 0 {
			t.Fatalf("behind %d ticks it looks as %+v", at+1, s)
		}
	}
	play(t, w, load(0, 0), drop(0), deliver(1), deliver(1))
	if s := w.Shot(); s.Ticks != 100 || s.Steps != 204 {
		t.Errorf("%d ticks, %d steps", s.Ticks, s.Steps)
	}
}

// P17.2: tokens of a node's other line go home where the block that is waited for has the only one.
func TestTokensGoHomeFromAPinnedLine(t *testing.T) {
	c := small(api.PScript, 9)
	c.Blocks, c.Tries = 2, 8
	w := made(t, c)
	all := advised(tick, 7, 0, 0)
	play(t, w, load(0, 1), all, advised(deliver(1), 1, 2, 0), deliver(1))
	checkFlight(t, w, ask(0, 1, 1, false))
	play(t, w, load(1, 1), advised(tick, 4, 0, 0), advised(deliver(1), 1, 3, 0), deliver(1))
	play(t, w, store(0, 0, 7), advised(tick, 4, 0, 0), advised(deliver(1), 1, 3, 0), deliver(1))
	checkFlight(t, w, ask(0, 1, 1, false), tokens(0, 2, 1, valued(1, 0)))
	checkLines(t, w, 0, api.Line{Tokens: owned(1, 0)})
	play(t, w, advised(deliver(0), 1, 3, 0), deliver(1))
	checkFlight(t, w, tokens(0, 2, 1, valued(1, 0)), tokens(0, 2, 1, owned(1, 0)))
	checkLines(t, w, 0, api.Line{Tokens: owned(1, 0)})
	checkLines(t, w, 1)
	play(t, w, deliver(1), deliver(0))
	checkHome(t, w, 1, owned(2, 0))
}

// P17.2: while another node's request is active tokens that come go on to it, from a node and from home.
func TestTokensGoOn(t *testing.T) {
	c := config(api.PTokenB)
	c.Ways = 1
	w := made(t, c)
	for block := range 2 {
		play(t, w, load(2, 1-block))
		come(t, w, api.LAsk, homeOf3, 1-block)
		come(t, w, api.LTokens, 2, 1-block)
	}
	play(t, w, load(0, 1))
	come(t, w, api.LAsk, homeOf3, 1)
	play(t, w, store(1, 1, 8), tick)
	play(t, w, deliver(slices.Index(w.Shot().Flight, persist(1, 1))))
	come(t, w, api.LActivate, 0, 1)
	for _, from := range []int{0, homeOf3} {
		come(t, w, api.LTokens, from, 1)
		all := w.Shot().Flight
		if got := all[len(all)-1]; got != tokens(from, 1, 1, valued(1, 0)) {
			t.Fatalf("from %d goes %+v", from, got)
		}
	}
	come(t, w, api.LTokens, 1, 1)
	come(t, w, api.LTokens, 1, 1)
	op := api.Op{Block: 1, Write: true, Value: 8}
	if over := come(t, w, api.LTokens, 1, 1); !slices.Equal(over, []api.Done{{Node: 1, Number: 1, Op: op, Value: 8, Step: w.Shot().Steps}}) {
		t.Errorf("%+v are over", over)
	}
}
