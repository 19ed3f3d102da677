package advice

import (
	"math"
	"slices"
	"testing"

	"jeton/api"
	"jeton/bundle"
)

var bools = []bool{false, true}

// noPolicies are numbers of which none is a policy's.
var noPolicies = []int{math.MinInt, -65, -2, -1, 3, 4, 7, 64, math.MaxInt - 1, math.MaxInt}

// silent are all numbers by which nothing is advised.
func silent() []int {
	return append([]int{api.PNull}, noPolicies...)
}

func allPolicies() []int {
	return append(silent(), api.PTokenB, api.PScript)
}

// drawEdges are numbers at whose bits a wrong sign, or a wrong end, shows.
var drawEdges = []int{
	math.MinInt64, math.MinInt64 + 1, -7, -2, -1, 0, 1, 2, 3, 4, 9, 1 << 31, 1 << 32, 1 << 62, math.MaxInt64,
	0x5555555555555555, -0x5555555555555556,
}

// draws are some of all: no bits, all bits, bits of one draw alone, and mixed ones.
func draws() []Draws {
	all := []Draws{
		{}, {-1, -1, -1},
		{-1, 0, 0}, {0, -1, 0}, {0, 0, -1},
		{0, -1, -1}, {-1, 0, -1}, {-1, -1, 0},
		{5, 1, 9}, {-6, -2, 3}, {9, 3, 0}, {-7, 2, 0},
	}
	for _, n := range drawEdges {
		all = append(all, Draws{n, 0, 0}, Draws{0, n, 0}, Draws{n, n, n}, Draws{n, -1, 0}, Draws{-1, n, 0})
	}
	return all
}

// nodeCounts are all that may be, and such as may not.
func nodeCounts() []int {
	all := []int{math.MinInt, math.MinInt + 1, -65, -64, -2, -1}
	for n := range api.MaxNodes + 1 {
		all = append(all, n)
	}
	return append(all, 65, 66, 127, 128, 191, 192, 1000, math.MaxInt-1, math.MaxInt)
}

// selves are all numbers around those of up to 64 nodes, and far ones.
func selves() []int {
	all := []int{math.MinInt, -65, -64, 128, 191, 192, math.MaxInt}
	for n := -2; n <= 67; n++ {
		all = append(all, n)
	}
	return all
}

// upTo lists the numbers from 0 to n, but those named.
func upTo(n int, but ...int) []int {
	var all []int
	for x := range n + 1 {
		if !slices.Contains(but, x) {
			all = append(all, x)
		}
	}
	return all
}

// bitOf says what a bit of a number is, by shifting it there one by one.
func bitOf(n, at int) bool {
	rest := uint64(n)
	for range at {
		rest /= 2
	}
	return rest%2 == 1
}

type targetsRow struct {
	policy, nodes, self int
	d                   Draws
	want                []int
}

func checkTargets(t *testing.T, rows []targetsRow) {
	t.Helper()
	for _, r := range rows {
		c := api.Config{Nodes: r.nodes, Policy: r.policy}
		if got := Targets(c, r.self, r.d); !slices.Equal(got, r.want) {
			t.Errorf("policy %d: Targets(%d nodes, %d, %v): %v, not %v", r.policy, r.nodes, r.self, r.d, got, r.want)
		}
	}
}

// P13.1: by PTokenB all, rising, home too, but self.
func TestTargetsByTokenB(t *testing.T) {
	checkTargets(t, []targetsRow{
		{api.PTokenB, 2, 0, Draws{}, []int{1, 2}},
		{api.PTokenB, 2, 1, Draws{}, []int{0, 2}},
		{api.PTokenB, 2, 2, Draws{}, []int{0, 1}},
		{api.PTokenB, 5, 3, Draws{}, []int{0, 1, 2, 4, 5}},
		{api.PTokenB, 1, 0, Draws{}, []int{1}},
		{api.PTokenB, 1, 1, Draws{}, []int{0}},
		// a self that isn't among them
		{api.PTokenB, 2, -1, Draws{}, []int{0, 1, 2}},
		{api.PTokenB, 2, 3, Draws{}, []int{0, 1, 2}},
		{api.PTokenB, 2, math.MinInt, Draws{}, []int{0, 1, 2}},
		{api.PTokenB, 2, math.MaxInt, Draws{}, []int{0, 1, 2}},
		// home alone
		{api.PTokenB, 0, -1, Draws{}, []int{0}},
		{api.PTokenB, 0, 0, Draws{}, nil},
		{api.PTokenB, 0, 1, Draws{}, []int{0}},
		// the most nodes, and more
		{api.PTokenB, 63, 5, Draws{}, upTo(63, 5)},
		{api.PTokenB, 64, 5, Draws{}, upTo(64, 5)},
		{api.PTokenB, 64, 64, Draws{}, upTo(63)},
		{api.PTokenB, 64, 65, Draws{}, upTo(64)},
		{api.PTokenB, 65, 3, Draws{}, nil},
		{api.PTokenB, math.MaxInt, 3, Draws{}, nil},
		// less than none
		{api.PTokenB, -1, 3, Draws{}, nil},
		{api.PTokenB, math.MinInt, 3, Draws{}, nil},
	})
}

// P13.1: by PScript those whose bit is 1.
func TestTargetsByScript(t *testing.T) {
	checkTargets(t, []targetsRow{
		{api.PScript, 3, 3, Draws{-1, 0, 0}, []int{0, 1, 2}},
		{api.PScript, 3, 0, Draws{-1, 0, 0}, []int{1, 2, 3}},
		{api.PScript, 3, 0, Draws{}, nil},
		{api.PScript, 3, 0, Draws{5, 0, 0}, []int{2}},
		{api.PScript, 3, 1, Draws{5, 0, 0}, []int{0, 2}},
		{api.PScript, 3, 2, Draws{5, 0, 0}, []int{0}},
		{api.PScript, 3, 1, Draws{8, 0, 0}, []int{3}},
		{api.PScript, 3, 1, Draws{-2, 0, 0}, []int{2, 3}},
		{api.PScript, 3, 1, Draws{16, 0, 0}, nil},
		// self's bit alone
		{api.PScript, 3, 2, Draws{4, 0, 0}, nil},
		// a self that isn't among them
		{api.PScript, 3, -1, Draws{-1, 0, 0}, []int{0, 1, 2, 3}},
		{api.PScript, 3, 4, Draws{-1, 0, 0}, []int{0, 1, 2, 3}},
		// home alone
		{api.PScript, 0, 1, Draws{1, 0, 0}, []int{0}},
		{api.PScript, 0, 1, Draws{2, 1, 1}, nil},
		{api.PScript, 0, 0, Draws{-1, -1, -1}, nil},
		// the numbers that may not be
		{api.PScript, 65, 3, Draws{-1, -1, -1}, nil},
		{api.PScript, math.MaxInt, 3, Draws{-1, -1, -1}, nil},
		{api.PScript, -1, 3, Draws{-1, -1, -1}, nil},
		{api.PScript, math.MinInt, 3, Draws{-1, -1, -1}, nil},
	})
}

// P13.1: at the edge between two draws 63 is the first one's last bit, and 64 the second one's first.
func TestTargetsBetweenTwoDraws(t *testing.T) {
	checkTargets(t, []targetsRow{
		{api.PScript, 64, 0, Draws{math.MinInt64, 0, 0}, []int{63}},
		{api.PScript, 64, 0, Draws{0, 1, 0}, []int{64}},
		{api.PScript, 64, 0, Draws{math.MinInt64, 1, 0}, []int{63, 64}},
		{api.PScript, 64, 63, Draws{math.MinInt64, 1, 0}, []int{64}},
		{api.PScript, 64, 64, Draws{math.MinInt64, 1, 0}, []int{63}},
		{api.PScript, 63, 0, Draws{math.MinInt64, 1, 0}, []int{63}},
		{api.PScript, 63, 0, Draws{0, 1, 0}, nil},
		{api.PScript, 64, 0, Draws{0, -2, -1}, nil},
		{api.PScript, 64, 0, Draws{0, math.MinInt64, 0}, nil},
		{api.PScript, 64, 0, Draws{math.MaxInt64, 0, -1}, upTo(62, 0)},
		{api.PScript, 64, 0, Draws{-1, 0, 0}, upTo(63, 0)},
		{api.PScript, 64, 7, Draws{-1, -1, -1}, upTo(64, 7)},
		{api.PScript, 64, 64, Draws{-1, -1, -1}, upTo(63)},
	})
}

// P13.1: each number hangs on its own bit, and on no other one.
func TestTargetsOfEachBit(t *testing.T) {
	c := api.Config{Nodes: api.MaxNodes, Policy: api.PScript}
	for at := range 3 * 64 {
		one, others := Draws{}, Draws{-1, -1, -1}
		one[at/64] = int(uint64(1) << (at % 64))
		others[at/64] = ^one[at/64]
		var want []int
		if at <= api.MaxNodes {
			want = []int{at}
		}
		if got := Targets(c, -1, one); !slices.Equal(got, want) {
			t.Errorf("bit %d alone: %v", at, got)
		}
		if got := Targets(c, -1, others); !slices.Equal(got, upTo(api.MaxNodes, at)) {
			t.Errorf("all bits but %d: %v", at, got)
		}
	}
}

// P13.1: by PNull, and by what is no policy, none, whatever the draws are.
func TestTargetsByOthers(t *testing.T) {
	for _, policy := range silent() {
		for _, nodes := range nodeCounts() {
			for _, self := range []int{-1, 0, 1, 64, 65} {
				for _, d := range draws() {
					if got := Targets(api.Config{Nodes: nodes, Policy: policy}, self, d); len(got) != 0 {
						t.Errorf("policy %d: Targets(%d nodes, %d, %v): %v", policy, nodes, self, d, got)
					}
				}
			}
		}
	}
}

// P13.1: the meaning itself, of all numbers of nodes, all selves, and all policies.
func TestTargetsOfAll(t *testing.T) {
	for _, policy := range []int{api.PNull, api.PTokenB, api.PScript, -1, 3} {
		for _, nodes := range nodeCounts() {
			for _, d := range draws() {
				asked := askedOf(policy, nodes, d)
				for _, self := range selves() {
					want := slices.DeleteFunc(slices.Clone(asked), func(n int) bool { return n == self })
					got := Targets(api.Config{Nodes: nodes, Policy: policy}, self, d)
					if !slices.Equal(got, want) {
						t.Fatalf("policy %d: Targets(%d nodes, %d, %v): %v, not %v", policy, nodes, self, d, got, want)
					}
				}
			}
		}
	}
}

// askedOf lists whom a policy has asked, self too.
func askedOf(policy, nodes int, d Draws) []int {
	if nodes < 0 || nodes > 64 || policy != api.PTokenB && policy != api.PScript {
		return nil
	}
	var all []int
	for n := 0; n <= nodes; n++ {
		draw, at := d[0], n
		if n == 64 {
			draw, at = d[1], 0
		}
		if policy == api.PTokenB || bitOf(draw, at) {
			all = append(all, n)
		}
	}
	return all
}

// P13.1: by PTokenB draws play no part.
func TestTargetsByTokenBWithoutDraws(t *testing.T) {
	for _, nodes := range []int{0, 1, 3, 63, 64} {
		c := api.Config{Nodes: nodes, Policy: api.PTokenB}
		for _, d := range draws() {
			if got := Targets(c, 1, d); !slices.Equal(got, upTo(nodes, 1)) {
				t.Errorf("Targets(%d nodes, 1, %v): %v", nodes, d, got)
			}
		}
	}
}

// P13.1: of a configuration nothing but its nodes and its policy plays a part.
func TestTargetsOfAnyConfig(t *testing.T) {
	for _, n := range []int{math.MinInt, -1, 0, 1, 64, 65, math.MaxInt} {
		c := api.Config{Nodes: 3, Blocks: n, Tokens: n, Sets: n, Ways: n, Cap: n, Wait: n, Tries: n, Policy: api.PTokenB}
		if got := Targets(c, 0, Draws{}); !slices.Equal(got, []int{1, 2, 3}) {
			t.Errorf("PTokenB, others %d: %v", n, got)
		}
		c.Policy = api.PScript
		if got := Targets(c, 0, Draws{6, n, n}); !slices.Equal(got, []int{1, 2}) {
			t.Errorf("PScript, others %d: %v", n, got)
		}
		c.Policy = api.PNull
		if got := Targets(c, 0, Draws{n, n, n}); len(got) != 0 {
			t.Errorf("PNull, others %d: %v", n, got)
		}
	}
}

// P13.1: what is answered is new memory, each time.
func TestTargetsAreNew(t *testing.T) {
	for _, policy := range []int{api.PTokenB, api.PScript} {
		c, d := api.Config{Nodes: 64, Policy: policy}, Draws{-1, -1, -1}
		first := Targets(c, 9, d)
		second := Targets(c, 9, d)
		for at := range first {
			first[at] = -5
		}
		_ = append(first, -5)
		if !slices.Equal(second, upTo(64, 9)) {
			t.Errorf("policy %d: %v, when another answer was written to", policy, second)
		}
		if third := Targets(c, 9, d); !slices.Equal(third, upTo(64, 9)) {
			t.Errorf("policy %d: %v, after an answer was written to", policy, third)
		}
	}
}

// P13.3: nobody asks itself, nor anybody twice, nor who isn't there; they rise.
func TestNobodyAsksItself(t *testing.T) {
	for _, policy := range allPolicies() {
		for _, nodes := range nodeCounts() {
			for _, d := range draws() {
				for _, self := range []int{-1, 0, 1, 2, 31, 32, 62, 63, 64, 65, nodes} {
					last := -1
					for _, n := range Targets(api.Config{Nodes: nodes, Policy: policy}, self, d) {
						if n == self || n <= last || n > nodes {
							t.Fatalf("policy %d: of %d nodes, by %v, %d asks %d behind %d", policy, nodes, d, self, n, last)
						}
						last = n
					}
				}
			}
		}
	}
}

// advised is all that Reply answers.
type advised struct {
	count       int
	owner, data bool
}

var nothing = advised{}

func replyOf(policy int, h api.Bundle, write bool, d Draws) advised {
	count, owner, data := Reply(policy, h, write, d)
	return advised{count, owner, data}
}

type replyRow struct {
	h     api.Bundle
	write bool
	d     Draws
	want  advised
}

func checkReply(t *testing.T, policy int, rows []replyRow) {
	t.Helper()
	for _, r := range rows {
		if got := replyOf(policy, r.h, r.write, r.d); got != r.want {
			t.Errorf("Reply(%d, %+v, %v, %v): %+v, not %+v", policy, r.h, r.write, r.d, got, r.want)
		}
	}
}

// plain: tokens without the owner's, and without the value.
func plain(count int) api.Bundle { return api.Bundle{Count: count} }

// valued: tokens without the owner's, with the value.
func valued(count int, data int64) api.Bundle {
	return api.Bundle{Count: count, Has: true, Data: data}
}

// owned: tokens with the owner's, and with the value.
func owned(count int, data int64) api.Bundle {
	return api.Bundle{Count: count, Owner: true, Has: true, Data: data}
}

// P13.2: the chapter's example.
func TestReplyOfTheExample(t *testing.T) {
	checkReply(t, api.PTokenB, []replyRow{
		{owned(3, 7), false, Draws{}, advised{1, false, true}},
		{owned(3, 7), true, Draws{}, advised{3, true, true}},
	})
}

// P13.2: by PTokenB, to a store: all, the owner's, and the value, if the owner's is there.
func TestReplyToStoreByTokenB(t *testing.T) {
	checkReply(t, api.PTokenB, []replyRow{
		{owned(1, 7), true, Draws{}, advised{1, true, true}},
		{owned(2, 7), true, Draws{}, advised{2, true, true}},
		{owned(2, 0), true, Draws{}, advised{2, true, true}},
		{owned(65536, 7), true, Draws{}, advised{65536, true, true}},
		// without the owner's: the value stays, though it is there
		{valued(1, 7), true, Draws{}, advised{1, true, false}},
		{valued(2, 7), true, Draws{}, advised{2, true, false}},
		{plain(1), true, Draws{}, advised{1, true, false}},
		{plain(5), true, Draws{}, advised{5, true, false}},
		{plain(0), true, Draws{}, advised{0, true, false}},
		// tokens that may not be
		{plain(-3), true, Draws{}, advised{-3, true, false}},
		{plain(math.MinInt), true, Draws{}, advised{math.MinInt, true, false}},
		{owned(math.MaxInt, 7), true, Draws{}, advised{math.MaxInt, true, true}},
		{api.Bundle{Count: 2, Owner: true}, true, Draws{}, advised{2, true, true}},
		{api.Bundle{Has: true}, true, Draws{}, advised{0, true, false}},
	})
}

// P13.2: by PTokenB, to a load: one, with the value, if the owner's is there; the owner's, if it is the only one.
func TestReplyToLoadByTokenB(t *testing.T) {
	checkReply(t, api.PTokenB, []replyRow{
		{owned(1, 7), false, Draws{}, advised{1, true, true}},
		{owned(1, 0), false, Draws{}, advised{1, true, true}},
		{owned(2, 7), false, Draws{}, advised{1, false, true}},
		{owned(4, 7), false, Draws{}, advised{1, false, true}},
		{owned(65536, 7), false, Draws{}, advised{1, false, true}},
		{owned(math.MaxInt, 7), false, Draws{}, advised{1, false, true}},
		// without the owner's: nothing
		{plain(0), false, Draws{}, nothing},
		{plain(1), false, Draws{}, nothing},
		{plain(2), false, Draws{}, nothing},
		{plain(math.MaxInt), false, Draws{}, nothing},
		{valued(1, 7), false, Draws{}, nothing},
		{valued(2, 7), false, Draws{}, nothing},
		{valued(65536, 7), false, Draws{}, nothing},
		// tokens that may not be
		{plain(-3), false, Draws{}, nothing},
		{api.Bundle{Count: 1, Owner: true}, false, Draws{}, advised{1, true, true}},
		{api.Bundle{Count: 2, Owner: true}, false, Draws{}, advised{1, false, true}},
		{owned(0, 7), false, Draws{}, advised{1, true, true}},
		{owned(-2, 7), false, Draws{}, advised{1, true, true}},
	})
}

// P13.2: by PScript the first draw, and two bits of the second.
func TestReplyByScript(t *testing.T) {
	for _, write := range bools {
		for _, h := range []api.Bundle{plain(0), plain(2), valued(1, 7), owned(1, 7), owned(3, 7), plain(-1)} {
			checkReply(t, api.PScript, []replyRow{
				{h, write, Draws{}, nothing},
				{h, write, Draws{2, 0, 0}, advised{2, false, false}},
				{h, write, Draws{2, 1, 0}, advised{2, true, false}},
				{h, write, Draws{2, 2, 0}, advised{2, false, true}},
				{h, write, Draws{2, 3, 0}, advised{2, true, true}},
				{h, write, Draws{0, 3, 0}, advised{0, true, true}},
				// draws below 0
				{h, write, Draws{-7, 2, 0}, advised{-7, false, true}},
				{h, write, Draws{-1, -1, -1}, advised{-1, true, true}},
				{h, write, Draws{1, -2, 0}, advised{1, false, true}},
				{h, write, Draws{1, -3, 0}, advised{1, true, false}},
				{h, write, Draws{1, -4, 0}, advised{1, false, false}},
				// the least and the greatest int
				{h, write, Draws{math.MinInt, math.MinInt, math.MinInt}, advised{math.MinInt, false, false}},
				{h, write, Draws{math.MaxInt, math.MaxInt, math.MaxInt}, advised{math.MaxInt, true, true}},
				// bits that play no part
				{h, write, Draws{5, 4, -1}, advised{5, false, false}},
				{h, write, Draws{5, ^3, 3}, advised{5, false, false}},
			})
		}
	}
}

// P13.2: by PNull, and by what is no policy, nothing, whatever there is and is drawn.
func TestReplyByOthers(t *testing.T) {
	for _, policy := range silent() {
		everyBundle(func(h api.Bundle) {
			for _, write := range bools {
				for _, d := range draws() {
					if got := replyOf(policy, h, write, d); got != nothing {
						t.Errorf("Reply(%d, %+v, %v, %v): %+v", policy, h, write, d, got)
					}
				}
			}
		})
	}
}

// everyBundle calls f with tokens of all shapes, such that can't be among them.
func everyBundle(f func(api.Bundle)) {
	for _, count := range []int{math.MinInt, -2, -1, 0, 1, 2, 3, 4, 65535, 65536, 65537, math.MaxInt} {
		for _, owner := range bools {
			for _, has := range bools {
				for _, data := range []int64{math.MinInt64, -1, 0, 1, 7, math.MaxInt64} {
					f(api.Bundle{Count: count, Owner: owner, Has: has, Data: data})
				}
			}
		}
	}
}

// P13.2: the meaning itself, of tokens of all shapes, by all policies and draws.
func TestReplyOfAll(t *testing.T) {
	everyBundle(func(h api.Bundle) {
		for _, policy := range allPolicies() {
			for _, write := range bools {
				for _, d := range draws() {
					want := meant(policy, h, write, d)
					if got := replyOf(policy, h, write, d); got != want {
						t.Fatalf("Reply(%d, %+v, %v, %v): %+v, not %+v", policy, h, write, d, got, want)
					}
				}
			}
		}
	})
}

// meant says P13.2 by its cases, one a line.
func meant(policy int, h api.Bundle, write bool, d Draws) advised {
	byTokenB := policy == api.PTokenB
	switch {
	case policy == api.PScript:
		return advised{d[0], bitOf(d[1], 0), bitOf(d[1], 1)}
	case byTokenB && write && h.Owner:
		return advised{h.Count, true, true}
	case byTokenB && write:
		return advised{h.Count, true, false}
	case byTokenB && h.Owner && h.Count > 1:
		return advised{1, false, true}
	case byTokenB && h.Owner:
		return advised{1, true, true}
	}
	return nothing
}

// P13.2: by other policies than PScript draws play no part.
func TestReplyWithoutDraws(t *testing.T) {
	everyBundle(func(h api.Bundle) {
		for _, policy := range append(silent(), api.PTokenB) {
			for _, write := range bools {
				want := replyOf(policy, h, write, Draws{})
				for _, d := range draws() {
					if got := replyOf(policy, h, write, d); got != want {
						t.Errorf("Reply(%d, %+v, %v, %v): %+v, by no draws %+v", policy, h, write, d, got, want)
					}
				}
			}
		}
	})
}

// P13.3: of tokens that may be, both sides of what is advised may be, and are together what there was.
func TestWhateverIsAdvisedMayBe(t *testing.T) {
	everyBundle(func(h api.Bundle) {
		if bundle.Check(h, math.MaxInt) != api.OK {
			return
		}
		for _, policy := range allPolicies() {
			for _, write := range bools {
				for _, d := range draws() {
					checkSides(t, policy, h, write, d)
				}
			}
		}
	})
}

// checkSides gives away of h what is advised, and looks at both sides.
func checkSides(t *testing.T, policy int, h api.Bundle, write bool, d Draws) {
	t.Helper()
	count, owner, data := Reply(policy, h, write, d)
	b, rest := bundle.Split(h, count, owner, data)
	for _, side := range []api.Bundle{b, rest} {
		if e := bundle.Check(side, h.Count); e != api.OK {
			t.Errorf("policy %d, of %+v (write %v, %v): %+v may not be: %d", policy, h, write, d, side, e)
		}
	}
	if b.Count+rest.Count != h.Count {
		t.Errorf("policy %d, of %+v (write %v, %v): %d and %d", policy, h, write, d, b.Count, rest.Count)
	}
	if b.Owner && rest.Owner || h.Owner != (b.Owner || rest.Owner) {
		t.Errorf("policy %d, of %+v (write %v, %v): whose is the owner's: %v, %v", policy, h, write, d, b.Owner, rest.Owner)
	}
}

// P13.2, P13.3: what goes from one to another one by PTokenB is what a load, or a store, needs.
func TestGivenByTokenB(t *testing.T) {
	rows := []struct {
		h       api.Bundle
		write   bool
		b, rest api.Bundle
	}{
		{owned(3, 7), true, owned(3, 7), plain(0)},
		{owned(1, 7), true, owned(1, 7), plain(0)},
		{valued(2, 7), true, plain(2), plain(0)},
		{plain(2), true, plain(2), plain(0)},
		{plain(0), true, plain(0), plain(0)},
		{owned(3, 7), false, valued(1, 7), owned(2, 7)},
		{owned(2, 7), false, valued(1, 7), owned(1, 7)},
		{owned(1, 7), false, owned(1, 7), plain(0)},
		{valued(2, 7), false, plain(0), valued(2, 7)},
		{plain(2), false, plain(0), plain(2)},
		{plain(0), false, plain(0), plain(0)},
	}
	for _, r := range rows {
		count, owner, data := Reply(api.PTokenB, r.h, r.write, Draws{9, 3, -1})
		b, rest := bundle.Split(r.h, count, owner, data)
		if b != r.b || rest != r.rest {
			t.Errorf("of %+v, write %v: %+v and %+v, not %+v and %+v", r.h, r.write, b, rest, r.b, r.rest)
		}
	}
}

// P13.3: a block's tokens that go round by any advice stay just as many, one of them the owner's, with the value.
func TestTokensThatGoRound(t *testing.T) {
	const places, tokens = 4, 6
	for _, policy := range allPolicies() {
		at := [places]api.Bundle{places - 1: bundle.Full(tokens, 7)}
		c := api.Config{Nodes: places - 1, Policy: policy}
		for step, d := range append(draws(), draws()...) {
			asks := step * 7 % places
			for _, n := range Targets(c, asks, d) {
				count, owner, data := Reply(policy, at[n], step%3 == 0, d)
				b, rest := bundle.Split(at[n], count, owner, data)
				at[n] = rest
				at[asks] = bundle.Join(at[asks], b)
			}
			checkAllThere(t, policy, step, at[:], tokens)
		}
	}
}

// checkAllThere tells where a block's tokens aren't as many as there are, or may not be.
func checkAllThere(t *testing.T, policy, step int, at []api.Bundle, tokens int) {
	t.Helper()
	count, owners := 0, 0
	for n, h := range at {
		count += h.Count
		if h.Owner {
			owners++
		}
		if e := bundle.Check(h, tokens); e != api.OK || h.Has && h.Data != 7 {
			t.Fatalf("policy %d, step %d: %d has %+v: %d", policy, step, n, h, e)
		}
	}
	if count != tokens || owners != 1 {
		t.Fatalf("policy %d, step %d: %d tokens, %d owners", policy, step, count, owners)
	}
}

// P13.1, P13.2: what is answered hangs on what is handed in alone.
func TestTheSameAgain(t *testing.T) {
	c := api.Config{Nodes: 64, Policy: api.PScript}
	for _, d := range draws() {
		first, given := Targets(c, 3, d), replyOf(api.PScript, owned(3, 7), false, d)
		for _, other := range draws() {
			Targets(c, 5, other)
			replyOf(api.PScript, plain(1), true, other)
		}
		if again := Targets(c, 3, d); !slices.Equal(again, first) {
			t.Errorf("Targets by %v: %v, then %v", d, first, again)
		}
		if again := replyOf(api.PScript, owned(3, 7), false, d); again != given {
			t.Errorf("Reply by %v: %+v, then %+v", d, given, again)
		}
	}
}
