package perm

import (
	"math"
	"testing"

	"jeton/api"
	"jeton/bundle"
)

var none = api.Bundle{}

// plain: tokens without the owner's, and without the value.
func plain(count int) api.Bundle { return api.Bundle{Count: count} }

// valued: tokens without the owner's, with the value.
func valued(count int, data int64) api.Bundle {
	return api.Bundle{Count: count, Has: true, Data: data}
}

// owned: tokens with the owner's, and with the value.
func owned(count int, data int64) api.Bundle {
	return api.Bundle{Count: count, Owner: true, Has: true, Data: data}
}

func loadOf(block int) api.Op { return api.Op{Block: block} }

func storeOf(block int, value int64) api.Op {
	return api.Op{Block: block, Write: true, Value: value}
}

var bools = []bool{false, true}

// counts are those around which a wrong comparison, or a wrap-round, shows.
var counts = []int{
	math.MinInt, math.MinInt + 1, -65536, -3, -2, -1, 0, 1, 2, 3, 4,
	65535, 65536, 65537, math.MaxInt - 1, math.MaxInt,
}

var values = []int64{math.MinInt64, -1, 0, 1, 7, math.MaxInt64}

// blocks are such as a world has, and such as it can't have.
var blocks = []int{math.MinInt, -1, 0, 1, 63, 64, 99, math.MaxInt}

// everyBundle calls f with tokens of all shapes, such that can't be among them.
func everyBundle(f func(api.Bundle)) {
	for _, count := range counts {
		for _, owner := range bools {
			for _, has := range bools {
				for _, data := range values {
					f(api.Bundle{Count: count, Owner: owner, Has: has, Data: data})
				}
			}
		}
	}
}

// P3.1
func TestReads(t *testing.T) {
	rows := []struct {
		h    api.Bundle
		want bool
	}{
		{valued(1, 7), true},
		{valued(2, 7), true},
		{valued(1, 0), true},
		{valued(1, -7), true},
		{owned(1, 7), true},
		{owned(3, 0), true},
		{valued(1, math.MinInt64), true},
		{valued(1, math.MaxInt64), true},
		{valued(math.MaxInt, 7), true},
		// no token, or tokens without the value
		{none, false},
		{plain(1), false},
		{plain(3), false},
		{plain(65536), false},
		{plain(math.MaxInt), false},
		// tokens that bundle's Check refuses
		{valued(0, 7), false},
		{valued(0, 0), false},
		{owned(0, 7), false},
		{api.Bundle{Owner: true}, false},
		{api.Bundle{Data: 7}, false},
		{plain(-1), false},
		{valued(-1, 7), false},
		{owned(-1, 7), false},
		{owned(math.MinInt, 7), false},
		{api.Bundle{Count: 1, Owner: true}, false},
		{api.Bundle{Count: 1, Data: 7}, false},
		{api.Bundle{Count: 3, Owner: true, Data: 7}, false},
	}
	for _, r := range rows {
		if got := Reads(r.h); got != r.want {
			t.Errorf("Reads(%+v): %v, not %v", r.h, got, r.want)
		}
	}
}

// P3.1
func TestWrites(t *testing.T) {
	rows := []struct {
		h      api.Bundle
		tokens int
		want   bool
	}{
		{owned(3, 7), 3, true},
		{owned(1, 7), 1, true},
		{owned(3, 0), 3, true},
		{owned(3, math.MinInt64), 3, true},
		{owned(3, math.MaxInt64), 3, true},
		{owned(65536, 7), 65536, true},
		{owned(math.MaxInt, 7), math.MaxInt, true},
		// of the owner's nothing is asked
		{valued(3, 7), 3, true},
		{valued(1, 0), 1, true},
		// some of the tokens, or more than there are
		{owned(1, 7), 3, false},
		{owned(2, 7), 3, false},
		{valued(2, 7), 3, false},
		{owned(4, 7), 3, false},
		{owned(65535, 7), 65536, false},
		{owned(65537, 7), 65536, false},
		{owned(math.MaxInt-1, 7), math.MaxInt, false},
		{owned(math.MaxInt, 7), math.MaxInt - 1, false},
		{owned(3, 7), math.MaxInt, false},
		// no token, or tokens without the value
		{none, 3, false},
		{none, 1, false},
		{plain(3), 3, false},
		{plain(1), 1, false},
		{plain(math.MaxInt), math.MaxInt, false},
		// a number of tokens below 1
		{none, 0, false},
		{none, -1, false},
		{none, math.MinInt, false},
		{owned(1, 7), 0, false},
		{owned(3, 7), -3, false},
		{owned(3, 7), math.MinInt, false},
		// tokens that bundle's Check refuses
		{owned(0, 7), 0, false},
		{valued(0, 7), 0, false},
		{owned(-1, 7), -1, false},
		{owned(-3, 7), 3, false},
		{owned(math.MinInt, 7), math.MinInt, false},
		{owned(math.MinInt, 7), math.MaxInt, false},
		{api.Bundle{Count: 3, Owner: true}, 3, false},
		{api.Bundle{Count: 3, Data: 7}, 3, false},
		{api.Bundle{Count: 3, Owner: true, Data: 7}, 3, false},
	}
	for _, r := range rows {
		if got := Writes(r.h, r.tokens); got != r.want {
			t.Errorf("Writes(%+v, %d): %v, not %v", r.h, r.tokens, got, r.want)
		}
	}
}

// P3.1: the meaning itself, of tokens of all shapes.
func TestReadsAndWritesOfAllShapes(t *testing.T) {
	everyBundle(func(h api.Bundle) {
		if want := h.Count > 0 && h.Has; Reads(h) != want {
			t.Errorf("Reads(%+v): %v, not %v", h, !want, want)
		}
		for _, tokens := range counts {
			if want := tokens > 0 && h.Count == tokens && h.Has; Writes(h, tokens) != want {
				t.Errorf("Writes(%+v, %d): %v, not %v", h, tokens, !want, want)
			}
		}
	})
}

type doRow struct {
	op     api.Op
	h      api.Bundle
	tokens int
	then   api.Bundle
	value  int64
	ok     bool
}

func checkDo(t *testing.T, rows []doRow) {
	t.Helper()
	for _, r := range rows {
		then, value, ok := Do(r.op, r.h, r.tokens)
		if then != r.then || value != r.value || ok != r.ok {
			t.Errorf("Do(%+v, %+v, %d): %+v, %d, %v, not %+v, %d, %v",
				r.op, r.h, r.tokens, then, value, ok, r.then, r.value, r.ok)
		}
	}
}

// P3.2: loads.
func TestLoad(t *testing.T) {
	checkDo(t, []doRow{
		{loadOf(0), valued(1, 7), 3, valued(1, 7), 7, true},
		{loadOf(0), valued(2, -7), 3, valued(2, -7), -7, true},
		{loadOf(0), valued(1, 0), 3, valued(1, 0), 0, true},
		{loadOf(0), owned(1, 7), 3, owned(1, 7), 7, true},
		{loadOf(0), owned(3, 7), 3, owned(3, 7), 7, true},
		{loadOf(0), valued(1, math.MinInt64), 3, valued(1, math.MinInt64), math.MinInt64, true},
		{loadOf(0), valued(1, math.MaxInt64), 3, valued(1, math.MaxInt64), math.MaxInt64, true},
		// a load's Value plays no part
		{api.Op{Value: 9}, valued(1, 7), 3, valued(1, 7), 7, true},
		{api.Op{Value: 9}, owned(3, 7), 3, owned(3, 7), 7, true},
		{api.Op{Value: 9}, plain(1), 3, plain(1), 0, false},
		// how many tokens the block has plays no part
		{loadOf(0), owned(4, 7), 3, owned(4, 7), 7, true},
		{loadOf(0), owned(1, 7), 0, owned(1, 7), 7, true},
		{loadOf(0), owned(1, 7), -1, owned(1, 7), 7, true},
		{loadOf(0), owned(1, 7), math.MinInt, owned(1, 7), 7, true},
		{loadOf(0), owned(math.MaxInt, 7), 1, owned(math.MaxInt, 7), 7, true},
		// no token, or tokens without the value
		{loadOf(0), none, 3, none, 0, false},
		{loadOf(0), none, 0, none, 0, false},
		{loadOf(0), plain(1), 3, plain(1), 0, false},
		{loadOf(0), plain(3), 3, plain(3), 0, false},
		// tokens that bundle's Check refuses
		{loadOf(0), owned(0, 7), 3, owned(0, 7), 0, false},
		{loadOf(0), valued(-1, 7), 3, valued(-1, 7), 0, false},
		{loadOf(0), valued(math.MinInt, 7), math.MinInt, valued(math.MinInt, 7), 0, false},
		{loadOf(0), api.Bundle{Count: 1, Data: 7}, 3, api.Bundle{Count: 1, Data: 7}, 0, false},
		{loadOf(0), api.Bundle{Count: 3, Owner: true, Data: 7}, 3, api.Bundle{Count: 3, Owner: true, Data: 7}, 0, false},
	})
}

// P3.2: stores.
func TestStore(t *testing.T) {
	checkDo(t, []doRow{
		{storeOf(0, 9), owned(3, 7), 3, owned(3, 9), 9, true},
		{storeOf(0, 9), valued(3, 7), 3, valued(3, 9), 9, true},
		{storeOf(0, 9), owned(1, 7), 1, owned(1, 9), 9, true},
		{storeOf(0, 7), owned(3, 7), 3, owned(3, 7), 7, true},
		{storeOf(0, 0), owned(3, 7), 3, owned(3, 0), 0, true},
		{storeOf(0, -9), owned(3, 0), 3, owned(3, -9), -9, true},
		{storeOf(0, math.MinInt64), owned(3, 7), 3, owned(3, math.MinInt64), math.MinInt64, true},
		{storeOf(0, math.MaxInt64), owned(3, math.MinInt64), 3, owned(3, math.MaxInt64), math.MaxInt64, true},
		{storeOf(0, 9), owned(math.MaxInt, 7), math.MaxInt, owned(math.MaxInt, 9), 9, true},
		// some of the tokens, or more than there are
		{storeOf(0, 9), valued(1, 7), 3, valued(1, 7), 0, false},
		{storeOf(0, 9), owned(2, 7), 3, owned(2, 7), 0, false},
		{storeOf(0, 9), owned(4, 7), 3, owned(4, 7), 0, false},
		{storeOf(0, 7), owned(2, 7), 3, owned(2, 7), 0, false},
		{storeOf(0, 9), owned(math.MaxInt-1, 7), math.MaxInt, owned(math.MaxInt-1, 7), 0, false},
		// no token, or tokens without the value
		{storeOf(0, 9), none, 3, none, 0, false},
		{storeOf(0, 9), plain(3), 3, plain(3), 0, false},
		{storeOf(0, 9), plain(1), 1, plain(1), 0, false},
		// a number of tokens below 1
		{storeOf(0, 9), none, 0, none, 0, false},
		{storeOf(0, 9), none, -1, none, 0, false},
		{storeOf(0, 9), owned(1, 7), 0, owned(1, 7), 0, false},
		{storeOf(0, 9), owned(3, 7), math.MinInt, owned(3, 7), 0, false},
		// tokens that bundle's Check refuses
		{storeOf(0, 9), owned(0, 7), 0, owned(0, 7), 0, false},
		{storeOf(0, 9), owned(-1, 7), -1, owned(-1, 7), 0, false},
		{storeOf(0, 9), owned(math.MinInt, 7), math.MinInt, owned(math.MinInt, 7), 0, false},
		{storeOf(0, 9), api.Bundle{Count: 3, Data: 7}, 3, api.Bundle{Count: 3, Data: 7}, 0, false},
		{storeOf(0, 9), api.Bundle{Count: 3, Owner: true}, 3, api.Bundle{Count: 3, Owner: true}, 0, false},
	})
}

// meant is what the promise says of an operation, written out.
func meant(op api.Op, h api.Bundle, tokens int) doRow {
	row := doRow{op: op, h: h, tokens: tokens, then: h}
	if h.Count < 1 || !h.Has {
		return row
	}
	if !op.Write {
		row.value, row.ok = h.Data, true
	} else if h.Count == tokens {
		row.then.Data, row.value, row.ok = op.Value, op.Value, true
	}
	return row
}

// P3.2: the meaning itself, of operations of any block, and of tokens of all shapes.
func TestDoOfAllShapes(t *testing.T) {
	everyBundle(func(h api.Bundle) {
		for _, tokens := range counts {
			for _, block := range blocks {
				for _, value := range values {
					checkDo(t, []doRow{
						meant(api.Op{Block: block, Value: value}, h, tokens),
						meant(storeOf(block, value), h, tokens),
					})
				}
			}
		}
	})
}

// P3.2: what is stored is what is loaded next, and tokens that may be still may be.
func TestLoadAfterStore(t *testing.T) {
	for _, tokens := range counts {
		for _, old := range values {
			for _, value := range values {
				then, _, ok := Do(storeOf(0, value), bundle.Full(tokens, old), tokens)
				if ok != (tokens > 0) {
					t.Errorf("a store with all of %d tokens: %v", tokens, ok)
				}
				if !ok {
					continue
				}
				if then != bundle.Full(tokens, value) || bundle.Check(then, tokens) != api.OK {
					t.Errorf("a store of %d with all of %d tokens makes %+v", value, tokens, then)
				}
				if _, got, ok := Do(loadOf(0), then, tokens); got != value || !ok {
					t.Errorf("a load behind a store of %d: %d, %v", value, got, ok)
				}
			}
		}
	}
}

// noneWith fails if an operation may be done with tokens beside which a store may be.
func noneWith(t *testing.T, other api.Bundle, tokens int) {
	t.Helper()
	if Reads(other) || Writes(other, tokens) {
		t.Errorf("of %d tokens: beside all of them, %+v may be used", tokens, other)
	}
	for _, op := range []api.Op{loadOf(0), storeOf(0, 9)} {
		if then, value, ok := Do(op, other, tokens); then != other || value != 0 || ok {
			t.Errorf("of %d tokens: beside all of them, Do(%+v, %+v): %+v, %d, %v", tokens, op, other, then, value, ok)
		}
	}
}

// P3.3: of all tokens that are split, a store with the one part leaves nothing to be done with the other one.
func TestOneWriterOfParts(t *testing.T) {
	for _, tokens := range counts {
		for _, count := range counts {
			for _, owner := range bools {
				for _, data := range bools {
					b, rest := bundle.Split(bundle.Full(tokens, 7), count, owner, data)
					if _, _, ok := Do(storeOf(0, 9), b, tokens); ok {
						noneWith(t, rest, tokens)
					}
					if _, _, ok := Do(storeOf(0, 9), rest, tokens); ok {
						noneWith(t, b, tokens)
					}
				}
			}
		}
	}
}

// P3.3: of parts that are both not empty, none may be stored with, and with those that have the value loads may be.
func TestManyReadersOfParts(t *testing.T) {
	for tokens := 2; tokens <= 6; tokens++ {
		for count := 1; count < tokens; count++ {
			for _, owner := range bools {
				b, rest := bundle.Split(bundle.Full(tokens, 7), count, owner, true)
				for _, part := range []api.Bundle{b, rest} {
					if Writes(part, tokens) || !Reads(part) {
						t.Errorf("%+v of %d tokens: writes %v, reads %v", part, tokens, Writes(part, tokens), Reads(part))
					}
				}
			}
		}
	}
}

// P3.3: of any tokens of one block, that together are at most all of them.
func TestOneWriterOfAllShapes(t *testing.T) {
	everyBundle(func(h api.Bundle) {
		for _, tokens := range counts {
			if bundle.Check(h, tokens) != api.OK || !Writes(h, tokens) {
				continue
			}
			everyBundle(func(other api.Bundle) {
				// Compared by what is left, not by the sum: that could wrap round.
				if bundle.Check(other, tokens-h.Count) == api.OK {
					noneWith(t, other, tokens)
				}
			})
		}
	})
}
