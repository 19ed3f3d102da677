package memory

import (
	"math"
	"math/rand"
	"reflect"
	"slices"
	"testing"

	"jeton/api"
	"jeton/bundle"
)

// none is no token.
var none = api.Bundle{}

// some are tokens without the owner's and the value.
func some(count int) api.Bundle { return api.Bundle{Count: count} }

// valued are tokens with a value.
func valued(count int, data int64) api.Bundle {
	return api.Bundle{Count: count, Has: true, Data: data}
}

// owned are tokens with the owner's, and a value.
func owned(count int, data int64) api.Bundle {
	return api.Bundle{Count: count, Owner: true, Has: true, Data: data}
}

// noBlocks are numbers that are no block where there are so many.
func noBlocks(blocks int) []int {
	return []int{
		math.MinInt, math.MinInt + 1, math.MinInt32 - 1, -64, -blocks - 1, -blocks, -2, -1,
		blocks, blocks + 1, 2*blocks + 64, math.MaxInt32 + 1, math.MaxInt - 1, math.MaxInt,
	}
}

// holding has just these, by blocks.
func holding(t *testing.T, tokens ...api.Bundle) *Memory {
	t.Helper()
	m := New(len(tokens), 0)
	for block, b := range tokens {
		if !m.Put(block, b) {
			t.Fatalf("Put(%d, %v) = false", block, b)
		}
	}
	checkAll(t, m, tokens...)
	return m
}

// checkAll tells where All, or Get, isn't what is wanted.
func checkAll(t *testing.T, m *Memory, want ...api.Bundle) {
	t.Helper()
	if got := m.All(); !slices.Equal(got, want) {
		t.Fatalf("All() = %v, not %v", got, want)
	}
	for block, b := range want {
		if got := m.Get(block); got != b {
			t.Fatalf("Get(%d) = %v, not %v", block, got, b)
		}
	}
}

// P10.1: the chapter's example.
func TestExample(t *testing.T) {
	m := New(2, 3)
	if got := m.Take(1, 3, true, false); got != owned(3, 0) {
		t.Errorf("Take(1, 3, true, false) = %v", got)
	}
	if got := m.Get(1); got != none {
		t.Errorf("Get(1) = %v", got)
	}
	checkAll(t, m, owned(3, 0), none)
}

// P10.1: the face is what the chapter lists.
func TestFace(t *testing.T) {
	face := reflect.TypeOf(New(1, 1))
	var names []string
	for i := range face.NumMethod() {
		names = append(names, face.Method(i).Name)
	}
	if want := []string{"All", "Copy", "Get", "Put", "Take"}; !slices.Equal(names, want) {
		t.Errorf("a Memory has %v, not %v", names, want)
	}
}

// P10.1: a new one has all tokens, with 0, of as many blocks as there are within 0 to 64.
func TestNew(t *testing.T) {
	for blocks, have := range map[int]int{
		math.MinInt: 0, math.MinInt32 - 1: 0, -65: 0, -64: 0, -2: 0, -1: 0,
		0: 0, 1: 1, 2: 2, 3: 3, 31: 31, 63: 63, 64: 64,
		65: 64, 66: 64, 128: 64, 65536: 64, math.MaxInt32 + 1: 64, math.MaxInt: 64,
	} {
		for tokens, each := range map[int]api.Bundle{
			math.MinInt: none, -65536: none, -1: none, 0: none,
			1: owned(1, 0), 2: owned(2, 0), 7: owned(7, 0), 65536: owned(65536, 0),
			65537: owned(65537, 0), math.MaxInt: owned(math.MaxInt, 0),
		} {
			if got := bundle.Full(tokens, 0); got != each {
				t.Fatalf("Full(%d, 0) = %v", tokens, got)
			}
			m := New(blocks, tokens)
			if got := len(m.All()); got != have {
				t.Fatalf("New(%d, %d) has %d blocks, not %d", blocks, tokens, got, have)
			}
			checkAll(t, m, slices.Repeat([]api.Bundle{each}, have)...)
			for _, block := range noBlocks(have) {
				if got := m.Get(block); got != none {
					t.Fatalf("New(%d, %d): Get(%d) = %v", blocks, tokens, block, got)
				}
			}
		}
	}
}

// P10.1: Get tells a block's tokens, each time the same, and none where there is no such block.
func TestGet(t *testing.T) {
	has := []api.Bundle{owned(3, 7), none, some(2), valued(1, -7), owned(65536, math.MinInt64)}
	m := holding(t, has...)
	for range 3 {
		for block, want := range has {
			if got := m.Get(block); got != want {
				t.Errorf("Get(%d) = %v, not %v", block, got, want)
			}
		}
		for _, block := range noBlocks(len(has)) {
			if got := m.Get(block); got != none {
				t.Errorf("Get(%d) = %v", block, got)
			}
		}
	}
	checkAll(t, m, has...)
}

// P10.1: what comes to a block is joined with what it has, and nothing comes to the others.
func TestPut(t *testing.T) {
	for _, row := range []struct{ has, came, want api.Bundle }{
		{none, none, none},
		{none, some(2), some(2)},
		{none, valued(1, 0), valued(1, 0)},
		{none, owned(3, 8), owned(3, 8)},
		{some(2), none, some(2)},
		{some(2), some(3), some(5)},
		{some(2), valued(3, 7), valued(5, 7)},
		{some(2), owned(1, math.MinInt64), owned(3, math.MinInt64)},
		{valued(2, 7), none, valued(2, 7)},
		{valued(2, 7), some(3), valued(5, 7)},
		{valued(2, 7), valued(3, 8), valued(5, 8)},
		{valued(2, 7), valued(3, 0), valued(5, 0)},
		{valued(2, 7), owned(3, 9), owned(5, 9)},
		{owned(2, 7), none, owned(2, 7)},
		{owned(2, 7), some(3), owned(5, 7)},
		{owned(2, 7), valued(3, -1), owned(5, -1)},
		{owned(2, 7), owned(3, math.MaxInt64), owned(5, math.MaxInt64)},
		{some(1), some(math.MaxInt - 1), some(math.MaxInt)},
		// These may not be a block's, but Join tells what they are together.
		{some(3), some(-1), some(2)},
		{some(1), some(-3), some(-2)},
		{valued(2, 7), api.Bundle{Has: true, Data: 9}, valued(2, 9)},
		{some(2), api.Bundle{Count: 1, Owner: true}, api.Bundle{Count: 3, Owner: true}},
		{valued(2, 7), api.Bundle{Count: 1, Data: 9}, valued(3, 7)},
	} {
		if got := bundle.Join(row.has, row.came); got != row.want {
			t.Fatalf("Join(%v, %v) = %v", row.has, row.came, got)
		}
		for block := range 3 {
			has := []api.Bundle{owned(4, 40), valued(5, 50), some(6)}
			has[block] = row.has
			m := holding(t, has...)
			if !m.Put(block, row.came) {
				t.Fatalf("Put(%d, %v) = false", block, row.came)
			}
			has[block] = row.want
			checkAll(t, m, has...)
		}
	}
}

// P10.1: the last of 64 blocks is one, and tokens come to it and go as of any other.
func TestLastBlock(t *testing.T) {
	for _, blocks := range []int{64, 65, math.MaxInt} {
		m := New(blocks, 2)
		if m.Put(64, some(1)) || m.Take(64, 1, true, true) != none {
			t.Errorf("New(%d, 2) has a block 64", blocks)
		}
		if !m.Put(63, valued(1, 5)) || m.Get(63) != owned(3, 5) || m.Get(62) != owned(2, 0) {
			t.Errorf("New(%d, 2): 63 has %v, and 62 %v", blocks, m.Get(63), m.Get(62))
		}
		if got := m.Take(63, 3, true, true); got != owned(3, 5) || m.Get(63) != none || m.Get(62) != owned(2, 0) {
			t.Errorf("New(%d, 2): of 63 %v went", blocks, got)
		}
	}
}

// P10.1: to no block nothing comes, and of none nothing goes; nothing is changed by it.
func TestNoBlock(t *testing.T) {
	for _, has := range [][]api.Bundle{{}, {owned(3, 7)}, {none}, {valued(2, 5), some(4), owned(1, 0)}} {
		m := holding(t, has...)
		for _, block := range noBlocks(len(has)) {
			for _, b := range []api.Bundle{none, some(1), valued(2, 9), owned(3, 9), some(-1), some(math.MaxInt)} {
				if m.Put(block, b) {
					t.Errorf("Put(%d, %v) = true, with %d blocks", block, b, len(has))
				}
			}
			for _, count := range []int{math.MinInt, -1, 0, 1, 2, math.MaxInt} {
				for _, owner := range []bool{false, true} {
					for _, data := range []bool{false, true} {
						if got := m.Take(block, count, owner, data); got != none {
							t.Errorf("Take(%d, %d, %t, %t) = %v, with %d blocks", block, count, owner, data, got, len(has))
						}
					}
				}
			}
			checkAll(t, m, has...)
		}
	}
}

// take is what a block has, what is asked of it, and what goes and stays then.
type take struct {
	has         api.Bundle
	count       int
	owner, data bool
	given, rest api.Bundle
}

// takes are those of each kind.
func takes() []take {
	return []take{
		// Of a block without tokens.
		{none, 0, true, true, none, none},
		{none, 1, true, true, none, none},
		{none, math.MaxInt, true, true, none, none},
		// None.
		{some(3), 0, true, true, none, some(3)},
		{owned(3, 7), 0, true, true, none, owned(3, 7)},
		{owned(3, 7), -1, true, true, none, owned(3, 7)},
		{valued(3, 7), math.MinInt, true, true, none, valued(3, 7)},
		// The only one is the owner's, and stays.
		{owned(1, 7), 1, false, true, none, owned(1, 7)},
		{owned(1, 7), math.MaxInt, false, false, none, owned(1, 7)},
		// Some.
		{some(3), 1, true, true, some(1), some(2)},
		{valued(3, 7), 2, false, false, some(2), valued(1, 7)},
		{valued(3, 7), 2, true, true, valued(2, 7), valued(1, 7)},
		{owned(3, 7), 1, false, false, some(1), owned(2, 7)},
		{owned(3, 7), 1, false, true, valued(1, 7), owned(2, 7)},
		{owned(3, 7), 1, true, false, owned(1, 7), valued(2, 7)},
		{owned(3, 7), 2, true, true, owned(2, 7), valued(1, 7)},
		// All that may go, and more, while the owner's stays.
		{owned(3, 7), 3, false, false, some(2), owned(1, 7)},
		{owned(3, 7), 99, false, true, valued(2, 7), owned(1, 7)},
		// All, and more than there are.
		{some(1), 1, false, false, some(1), none},
		{some(3), 3, true, true, some(3), none},
		{valued(3, 7), 3, false, false, some(3), none},
		{valued(3, 7), 4, false, true, valued(3, 7), none},
		{owned(1, 7), 1, true, false, owned(1, 7), none},
		{owned(3, 7), 3, true, false, owned(3, 7), none},
		{owned(3, 7), math.MaxInt, true, true, owned(3, 7), none},
		{owned(math.MaxInt, 0), math.MaxInt, true, true, owned(math.MaxInt, 0), none},
	}
}

// P10.1: what Split gives away goes, the rest stays, and of other blocks nothing goes.
func TestTake(t *testing.T) {
	for _, row := range takes() {
		given, rest := bundle.Split(row.has, row.count, row.owner, row.data)
		if given != row.given || rest != row.rest {
			t.Fatalf("Split(%v, %d, %t, %t) = %v, %v", row.has, row.count, row.owner, row.data, given, rest)
		}
		for block := range 3 {
			has := []api.Bundle{owned(4, 40), valued(5, 50), some(6)}
			has[block] = row.has
			m := holding(t, has...)
			if got := m.Take(block, row.count, row.owner, row.data); got != row.given {
				t.Fatalf("Take(%d, %d, %t, %t) of %v = %v, not %v", block, row.count, row.owner, row.data, row.has, got, row.given)
			}
			has[block] = row.rest
			checkAll(t, m, has...)
		}
	}
}

// P10.1: of what went nothing goes again; what comes back goes again.
func TestTakeAgain(t *testing.T) {
	m := New(2, 4)
	for _, row := range []struct {
		count       int
		owner, data bool
		given, rest api.Bundle
	}{
		{1, false, true, valued(1, 0), owned(3, 0)},
		{1, false, false, some(1), owned(2, 0)},
		{2, false, true, valued(1, 0), owned(1, 0)},
		{1, false, true, none, owned(1, 0)},
		{1, true, false, owned(1, 0), none},
		{1, true, true, none, none},
		{math.MaxInt, true, true, none, none},
	} {
		if got := m.Take(1, row.count, row.owner, row.data); got != row.given {
			t.Fatalf("Take(1, %d, %t, %t) = %v, not %v", row.count, row.owner, row.data, got, row.given)
		}
		checkAll(t, m, owned(4, 0), row.rest)
	}
	if !m.Put(1, owned(2, 8)) {
		t.Fatal("nothing comes to a block without tokens")
	}
	if got := m.Take(1, 9, true, true); got != owned(2, 8) {
		t.Errorf("Take of what came back = %v", got)
	}
	checkAll(t, m, owned(4, 0), none)
}

// P10.1: All is by blocks, from 0 on; each block is there, with tokens or without.
func TestAllIsByBlocks(t *testing.T) {
	random := rand.New(rand.NewSource(10))
	for blocks := range 65 {
		m, want := New(blocks, 3), make([]api.Bundle, blocks)
		for _, block := range random.Perm(blocks) {
			m.Put(block, valued(block, int64(-block)))
			want[block] = owned(block+3, int64(-block))
		}
		checkAll(t, m, want...)
		for _, block := range random.Perm(blocks)[:blocks/2] {
			m.Take(block, math.MaxInt, true, true)
			want[block] = none
		}
		checkAll(t, m, want...)
	}
}

// P10.1: of no blocks All tells none, whatever was called.
func TestAllOfNoBlocks(t *testing.T) {
	for _, blocks := range []int{0, -1, math.MinInt} {
		m := New(blocks, 5)
		checkAll(t, m)
		m.Put(0, owned(1, 1))
		m.Take(0, 1, true, true)
		checkAll(t, m)
		checkAll(t, m.Copy())
	}
}

// P10.1: what All gave is the caller's own, its spare room too, and no later call is to be seen in it.
func TestAllIsTheCallers(t *testing.T) {
	has := []api.Bundle{owned(3, 7), some(2), valued(4, 5)}
	m := holding(t, has...)
	first, second := m.All(), m.All()
	for i := range first {
		first[i] = owned(90+i, 90)
	}
	spare := first[:cap(first)]
	for i := range spare {
		spare[i] = some(99)
	}
	for range 70 {
		first = append(first, some(99))
	}
	checkAll(t, m, has...)
	if !slices.Equal(second, has) {
		t.Errorf("what one caller changed is with another one: %v", second)
	}
	m.Put(1, owned(1, 6))
	m.Take(0, 1, true, true)
	m.Take(2, 4, true, true)
	if !slices.Equal(second, has) {
		t.Errorf("what was told is %v now", second)
	}
	checkAll(t, m, valued(2, 7), owned(3, 6), none)
}

// P10.1: what New is told is each one's own: no two of them, and no two blocks, share anything.
func TestNewOnesAreOnTheirOwn(t *testing.T) {
	a, b := New(3, 2), New(3, 2)
	a.Put(1, valued(1, 5))
	a.Take(2, 2, true, true)
	checkAll(t, a, owned(2, 0), owned(3, 5), none)
	checkAll(t, b, owned(2, 0), owned(2, 0), owned(2, 0))
}

// P10.1: a copy is like it, of each number of blocks.
func TestCopyIsLikeIt(t *testing.T) {
	for blocks := range 65 {
		m := New(blocks, 4)
		for block := range blocks {
			m.Put(block, valued(block%3, int64(block)))
			m.Take(block, block%6, block%2 == 0, true)
		}
		d := m.Copy().Copy()
		checkAll(t, d, m.All()...)
		for _, block := range noBlocks(blocks) {
			if d.Get(block) != none || d.Put(block, some(1)) || d.Take(block, 1, true, true) != none {
				t.Fatalf("a copy with %d blocks has a block %d", blocks, block)
			}
		}
		for block := range blocks {
			if a, b := m.Take(block, 3, true, true), d.Take(block, 3, true, true); a != b {
				t.Fatalf("of %d %v goes, and of the copy's %v", block, a, b)
			}
		}
		checkAll(t, d, m.All()...)
	}
}

// P10.1: neither a copy nor what it was made of knows what becomes of the other one.
func TestCopyIsOnItsOwn(t *testing.T) {
	has := []api.Bundle{owned(3, 7), some(2), none}
	for _, change := range []func(m *Memory){
		func(m *Memory) { m.Put(0, valued(1, 9)) },
		func(m *Memory) { m.Put(2, owned(1, 9)) },
		func(m *Memory) { m.Take(0, 1, false, true) },
		func(m *Memory) { m.Take(0, 3, true, true) },
		func(m *Memory) { m.Take(1, 2, true, true); m.Put(1, some(9)) },
		func(m *Memory) { m.All()[0] = some(9) },
	} {
		m := holding(t, has...)
		d := m.Copy()
		change(d)
		checkAll(t, m, has...)

		d = m.Copy()
		change(m)
		checkAll(t, d, has...)

		// A copy's copy outlives both.
		m = holding(t, has...)
		d = m.Copy()
		e := d.Copy()
		change(m)
		change(d)
		checkAll(t, e, has...)
	}
}

// call is one of Put and Take.
type call struct {
	put          bool
	block, count int
	owner, data  bool
	value        int64
}

// tokens are what a Put comes with.
func (x call) tokens() api.Bundle {
	b := api.Bundle{Count: x.count, Owner: x.owner, Has: x.owner || x.data}
	if b.Has {
		b.Data = x.value
	}
	return b
}

// both has a call done by a Memory and as the promises say it, on a plain list; it tells where they differ.
func (x call) both(t *testing.T, m *Memory, has []api.Bundle) {
	t.Helper()
	there := x.block >= 0 && x.block < len(has)
	if x.put {
		if there {
			has[x.block] = bundle.Join(has[x.block], x.tokens())
		}
		if got := m.Put(x.block, x.tokens()); got != there {
			t.Fatalf("Put(%d, %v) = %t", x.block, x.tokens(), got)
		}
	} else {
		var want api.Bundle
		if there {
			want, has[x.block] = bundle.Split(has[x.block], x.count, x.owner, x.data)
		}
		if got := m.Take(x.block, x.count, x.owner, x.data); got != want {
			t.Fatalf("Take(%d, %d, %t, %t) = %v, not %v", x.block, x.count, x.owner, x.data, got, want)
		}
	}
	checkAll(t, m, has...)
}

// P10.1: all orders of a few calls, from each point of them on a copy, are as the promises say.
func TestAllOrders(t *testing.T) {
	calls := []call{
		{put: true, block: 2, count: 1, owner: true, value: 3},
		{put: false, block: 2, count: 1, owner: true},
	}
	for block := range 2 {
		calls = append(calls,
			call{put: true, block: block, count: 1, data: true, value: 5},
			call{put: true, block: block, count: 2},
			call{put: false, block: block, count: 1, data: true},
			call{put: false, block: block, count: 2, owner: true},
		)
	}
	var follow func(m *Memory, has []api.Bundle, left int)
	follow = func(m *Memory, has []api.Bundle, left int) {
		if left == 0 {
			return
		}
		for _, x := range calls {
			d, then := m.Copy(), slices.Clone(has)
			x.both(t, d, then)
			follow(d, then, left-1)
		}
		checkAll(t, m, has...)
	}
	for tokens := range 3 {
		each := bundle.Full(tokens, 0)
		follow(New(2, tokens), []api.Bundle{each, each}, 4)
	}
}

// anyCall is one of small numbers, so that each block is met often.
func anyCall(random *rand.Rand, blocks int) call {
	return call{
		put:   random.Intn(2) == 0,
		block: random.Intn(blocks+2) - 1,
		count: random.Intn(7) - 1,
		owner: random.Intn(3) == 0,
		data:  random.Intn(2) == 0,
		value: random.Int63n(9) - 4,
	}
}

// P10.1: long orders of calls are as the promises say.
func TestLongOrders(t *testing.T) {
	random := rand.New(rand.NewSource(101))
	for range 60 {
		blocks, tokens := random.Intn(6), random.Intn(6)
		m, has := New(blocks, tokens), slices.Repeat([]api.Bundle{bundle.Full(tokens, 0)}, blocks)
		for range 1000 {
			anyCall(random, blocks).both(t, m, has)
			if random.Intn(50) == 0 {
				m = m.Copy()
			}
		}
	}
}

// tally is what is somewhere of a block.
type tally struct{ count, owners int }

// of is what some tokens are.
func of(b api.Bundle) tally {
	if b.Owner {
		return tally{b.Count, 1}
	}
	return tally{b.Count, 0}
}

func (a tally) more(b tally) tally { return tally{a.count + b.count, a.owners + b.owners} }

func (a tally) less(b tally) tally { return tally{a.count - b.count, a.owners - b.owners} }

// P10.2: over any calls, of each block there is what was there at first, and came, less what went, the owner's token too.
func TestTokensAreNeitherMadeNorLost(t *testing.T) {
	random := rand.New(rand.NewSource(102))
	for range 100 {
		blocks, tokens := random.Intn(5)+1, random.Intn(7)
		m := New(blocks, tokens)
		want := slices.Repeat([]tally{of(bundle.Full(tokens, 0))}, blocks)
		for range 1000 {
			x := anyCall(random, blocks)
			there := x.block >= 0 && x.block < blocks
			if x.put {
				// Of tokens that may be on their way: some, and no second owner's of a block.
				x.count = max(x.count, 1)
				x.owner = x.owner && there && want[x.block].owners == 0
				if m.Put(x.block, x.tokens()) {
					want[x.block] = want[x.block].more(of(x.tokens()))
				}
			} else if went := m.Take(x.block, x.count, x.owner, x.data); there {
				want[x.block] = want[x.block].less(of(went))
			}
			checkTally(t, m, want)
		}
	}
}

// checkTally tells where what is there isn't what is wanted, of each block.
func checkTally(t *testing.T, m *Memory, want []tally) {
	t.Helper()
	all := m.All()
	if len(all) != len(want) {
		t.Fatalf("there are %d blocks, not %d", len(all), len(want))
	}
	for block, w := range want {
		if of(all[block]) != w || of(m.Get(block)) != w {
			t.Fatalf("of %d there are %v, and not %v", block, all[block], w)
		}
		if code := bundle.Check(all[block], w.count); code != api.OK {
			t.Fatalf("%d has %v: %d", block, all[block], code)
		}
	}
}

// P10.2: what goes and comes back leaves of each block all tokens, the owner's and the value, in whatever parts and order.
func TestAllComeBack(t *testing.T) {
	random := rand.New(rand.NewSource(1022))
	for range 100 {
		blocks, tokens := random.Intn(64)+1, random.Intn(9)+1
		m := New(blocks, tokens)
		var away []api.Line
		for range 300 {
			block := random.Intn(blocks)
			if b := m.Take(block, random.Intn(tokens+1), random.Intn(2) == 0, true); b.Count > 0 {
				away = append(away, api.Line{Block: block, Tokens: b})
			}
		}
		for _, at := range random.Perm(len(away)) {
			if !m.Put(away[at].Block, away[at].Tokens) {
				t.Fatalf("%v doesn't come back", away[at])
			}
		}
		checkAll(t, m, slices.Repeat([]api.Bundle{owned(tokens, 0)}, blocks)...)
	}
}

// P10.1: no call panics, and each ends, even where counts are beyond all that tokens can be.
func TestCallsEndWhateverTheyAreHanded(t *testing.T) {
	extremes := []int{math.MinInt, math.MinInt + 1, -1, 0, 1, 2, 63, 64, math.MaxInt - 1, math.MaxInt}
	for _, blocks := range extremes {
		for _, tokens := range extremes {
			m := New(blocks, tokens)
			for _, count := range extremes {
				for _, block := range extremes {
					for _, flag := range []bool{false, true} {
						m.Put(block, api.Bundle{Count: count, Owner: flag, Has: !flag, Data: math.MinInt64})
						m.Take(block, count, flag, !flag)
						m.Get(block)
					}
				}
				m = m.Copy()
				m.All()
			}
		}
	}
}
