package bundle

import (
	"math"
	"testing"

	"jeton/api"
)

var none = api.Bundle{}

// plain: tokens without the owner's, and without the value.
func plain(count int) api.Bundle { return api.Bundle{Count: count} }

// valued: tokens without the owner's, with the value.
func valued(count int, data int64) api.Bundle {
	return api.Bundle{Count: count, Has: true, Data: data}
}

// owned: tokens with the owner's, and with the value.
func owned(count int, data int64) api.Bundle {
	return api.Bundle{Count: count, Owner: true, Has: true, Data: data}
}

var bools = []bool{false, true}

// counts are those around which a wrong comparison, or a wrap-round, shows.
var counts = []int{
	math.MinInt, math.MinInt + 1, -65536, -2, -1, 0, 1, 2, 3, 4, 5, 6,
	65535, 65536, 65537, math.MaxInt - 1, math.MaxInt,
}

var values = []int64{math.MinInt64, -1, 0, 1, 7, math.MaxInt64}

// everyBundle calls f with tokens of all shapes, such that can't be among them.
func everyBundle(f func(api.Bundle)) {
	for _, count := range counts {
		for _, owner := range bools {
			for _, has := range bools {
				for _, data := range values {
					f(api.Bundle{Count: count, Owner: owner, Has: has, Data: data})
				}
			}
		}
	}
}

// P2.1
func TestCheck(t *testing.T) {
	rows := []struct {
		b      api.Bundle
		tokens int
		want   api.Errno
	}{
		{none, 4, api.OK},
		{none, 0, api.OK},
		{plain(1), 4, api.OK},
		{plain(4), 4, api.OK},
		{valued(2, 7), 4, api.OK},
		{valued(2, 0), 4, api.OK},
		{valued(4, -7), 4, api.OK},
		{owned(1, 7), 4, api.OK},
		{owned(4, 0), 4, api.OK},
		{owned(1, 7), 1, api.OK},
		{owned(2, math.MinInt64), 4, api.OK},
		{owned(2, math.MaxInt64), 4, api.OK},
		{owned(math.MaxInt, 7), math.MaxInt, api.OK},
		// counts that can't be
		{plain(-1), 4, api.ErrCount},
		{plain(5), 4, api.ErrCount},
		{owned(5, 7), 4, api.ErrCount},
		{plain(1), 0, api.ErrCount},
		{none, -1, api.ErrCount},
		{plain(-1), -1, api.ErrCount},
		{plain(-2), -1, api.ErrCount},
		{none, math.MinInt, api.ErrCount},
		{plain(math.MinInt), math.MaxInt, api.ErrCount},
		{plain(math.MinInt), math.MinInt, api.ErrCount},
		{plain(math.MaxInt), math.MaxInt - 1, api.ErrCount},
		// no token, but the owner's, or a value
		{api.Bundle{Owner: true}, 4, api.ErrOwner},
		{api.Bundle{Has: true}, 4, api.ErrOwner},
		{api.Bundle{Has: true, Data: 7}, 4, api.ErrOwner},
		{owned(0, 7), 4, api.ErrOwner},
		{owned(0, 7), 0, api.ErrOwner},
		// the owner's without the value, or a value that isn't there
		{api.Bundle{Count: 1, Owner: true}, 4, api.ErrData},
		{api.Bundle{Count: 4, Owner: true}, 4, api.ErrData},
		{api.Bundle{Count: 1, Data: 7}, 4, api.ErrData},
		{api.Bundle{Count: 1, Data: -1}, 4, api.ErrData},
		{api.Bundle{Count: 1, Data: math.MinInt64}, 4, api.ErrData},
		{api.Bundle{Data: 1}, 4, api.ErrData},
		// several errors: the one that is named first
		{api.Bundle{Count: 5, Owner: true}, 4, api.ErrCount},
		{api.Bundle{Count: -1, Has: true}, 4, api.ErrCount},
		{api.Bundle{Count: 5, Data: 7}, 4, api.ErrCount},
		{api.Bundle{Owner: true, Has: true}, -1, api.ErrCount},
		{api.Bundle{Owner: true, Data: 7}, 4, api.ErrOwner},
	}
	for _, r := range rows {
		if got := Check(r.b, r.tokens); got != r.want {
			t.Errorf("Check(%+v, %d): %d, not %d", r.b, r.tokens, got, r.want)
		}
	}
}

// P2.1: what Check lets pass is just what may be, of all shapes.
func TestCheckOfAllShapes(t *testing.T) {
	everyBundle(func(b api.Bundle) {
		for _, tokens := range counts {
			may := false
			if b.Count >= 0 && b.Count <= tokens {
				may = b == none || b.Count > 0 && (b.Has || !b.Owner && b.Data == 0)
			}
			if got := Check(b, tokens); (got == api.OK) != may {
				t.Errorf("Check(%+v, %d): %d, but may it be: %v", b, tokens, got, may)
			}
		}
	})
}

// P2.1
func TestFull(t *testing.T) {
	rows := []struct {
		tokens int
		data   int64
		want   api.Bundle
	}{
		{3, 7, owned(3, 7)},
		{1, 7, owned(1, 7)},
		{3, 0, owned(3, 0)},
		{3, -7, owned(3, -7)},
		{65536, math.MinInt64, owned(65536, math.MinInt64)},
		{math.MaxInt, math.MaxInt64, owned(math.MaxInt, math.MaxInt64)},
		// numbers below 1
		{0, 7, none},
		{-1, 7, none},
		{-1, 0, none},
		{math.MinInt, math.MinInt64, none},
	}
	for _, r := range rows {
		if got := Full(r.tokens, r.data); got != r.want {
			t.Errorf("Full(%d, %d): %+v, not %+v", r.tokens, r.data, got, r.want)
		}
	}
}

// P2.1: all tokens may be all tokens.
func TestFullMayBe(t *testing.T) {
	for _, tokens := range counts {
		if tokens < 0 {
			continue
		}
		for _, data := range values {
			if e := Check(Full(tokens, data), tokens); e != api.OK {
				t.Errorf("Full(%d, %d) may not be: %d", tokens, data, e)
			}
		}
	}
}

type splitRow struct {
	h           api.Bundle
	count       int
	owner, data bool
	b, rest     api.Bundle
}

func checkSplit(t *testing.T, rows []splitRow) {
	t.Helper()
	for _, r := range rows {
		b, rest := Split(r.h, r.count, r.owner, r.data)
		if b != r.b || rest != r.rest {
			t.Errorf("Split(%+v, %d, %v, %v): %+v and %+v, not %+v and %+v",
				r.h, r.count, r.owner, r.data, b, rest, r.b, r.rest)
		}
	}
}

// P2.2: of tokens with the owner's.
func TestSplitOfOwned(t *testing.T) {
	checkSplit(t, []splitRow{
		// the owner's isn't asked for
		{owned(3, 7), 1, false, true, valued(1, 7), owned(2, 7)},
		{owned(3, 7), 1, false, false, plain(1), owned(2, 7)},
		{owned(3, 7), 2, false, true, valued(2, 7), owned(1, 7)},
		{owned(3, 0), 1, false, true, valued(1, 0), owned(2, 0)},
		// all are asked for, but the owner's
		{owned(3, 7), 3, false, false, plain(2), owned(1, 7)},
		{owned(3, 7), 3, false, true, valued(2, 7), owned(1, 7)},
		{owned(3, 7), 9, false, true, valued(2, 7), owned(1, 7)},
		{owned(3, 7), math.MaxInt, false, false, plain(2), owned(1, 7)},
		{owned(1, 7), 1, false, true, none, owned(1, 7)},
		{owned(1, 7), 9, false, false, none, owned(1, 7)},
		// the owner's is asked for: the value goes with it, wanted or not
		{owned(3, 7), 1, true, false, owned(1, 7), valued(2, 7)},
		{owned(3, 7), 1, true, true, owned(1, 7), valued(2, 7)},
		{owned(3, 7), 2, true, false, owned(2, 7), valued(1, 7)},
		{owned(3, 0), 2, true, false, owned(2, 0), valued(1, 0)},
		{owned(3, 7), 3, true, false, owned(3, 7), none},
		{owned(3, 7), 4, true, true, owned(3, 7), none},
		{owned(3, 7), math.MaxInt, true, false, owned(3, 7), none},
		{owned(1, 7), 1, true, false, owned(1, 7), none},
		// none are asked for, or less
		{owned(3, 7), 0, true, true, none, owned(3, 7)},
		{owned(3, 7), 0, false, false, none, owned(3, 7)},
		{owned(3, 7), -1, true, true, none, owned(3, 7)},
		{owned(3, 7), math.MinInt, true, true, none, owned(3, 7)},
		{owned(1, 7), -1, false, true, none, owned(1, 7)},
		// the greatest count
		{owned(math.MaxInt, 7), math.MaxInt, true, false, owned(math.MaxInt, 7), none},
		{owned(math.MaxInt, 7), math.MaxInt, false, true, valued(math.MaxInt-1, 7), owned(1, 7)},
		{owned(math.MaxInt, 7), math.MinInt, false, true, none, owned(math.MaxInt, 7)},
	})
}

// P2.2: of tokens without the owner's, and of none.
func TestSplitWithoutOwner(t *testing.T) {
	checkSplit(t, []splitRow{
		{valued(4, 7), 1, false, true, valued(1, 7), valued(3, 7)},
		{valued(4, 7), 1, false, false, plain(1), valued(3, 7)},
		{valued(4, 0), 1, false, true, valued(1, 0), valued(3, 0)},
		{plain(4), 1, false, true, plain(1), plain(3)},
		{plain(4), 3, false, false, plain(3), plain(1)},
		// the owner's is asked for, but isn't there
		{valued(4, 7), 2, true, true, valued(2, 7), valued(2, 7)},
		{valued(4, 7), 2, true, false, plain(2), valued(2, 7)},
		{plain(4), 2, true, true, plain(2), plain(2)},
		// all, and more than there are
		{valued(4, 7), 4, false, true, valued(4, 7), none},
		{valued(4, 7), 5, false, true, valued(4, 7), none},
		{valued(4, 7), math.MaxInt, true, true, valued(4, 7), none},
		{plain(4), 9, false, true, plain(4), none},
		{plain(1), 1, true, false, plain(1), none},
		{plain(math.MaxInt), math.MaxInt, false, false, plain(math.MaxInt), none},
		// all go, and the value with none of both
		{valued(4, 7), 4, false, false, plain(4), none},
		{valued(4, 7), 9, true, false, plain(4), none},
		{valued(1, 7), 1, false, false, plain(1), none},
		// none are asked for, or less
		{valued(4, 7), 0, true, true, none, valued(4, 7)},
		{valued(4, 7), -2, true, true, none, valued(4, 7)},
		{valued(4, 7), math.MinInt, false, false, none, valued(4, 7)},
		{plain(4), 0, true, true, none, plain(4)},
		// no tokens at all
		{none, 0, false, false, none, none},
		{none, 3, true, true, none, none},
		{none, -3, false, true, none, none},
		{none, math.MaxInt, true, true, none, none},
		{none, math.MinInt, true, true, none, none},
	})
}

// everySplit calls f with each way to split tokens that may be.
func everySplit(f func(h api.Bundle, count int, owner, data bool)) {
	everyBundle(func(h api.Bundle) {
		if Check(h, math.MaxInt) != api.OK {
			return
		}
		for _, count := range counts {
			for _, owner := range bools {
				for _, data := range bools {
					f(h, count, owner, data)
				}
			}
		}
	})
}

// P2.2: how many are given is the most that count, h, and the owner's that stays let go.
func TestSplitGivesTheMost(t *testing.T) {
	everySplit(func(h api.Bundle, count int, owner, data bool) {
		b, _ := Split(h, count, owner, data)
		most := h.Count
		if h.Owner && !b.Owner && most > 0 {
			most--
		}
		if want := min(max(count, 0), most); b.Count != want {
			t.Errorf("Split(%+v, %d, %v, %v) gives %d, not %d", h, count, owner, data, b.Count, want)
		}
		if want := h.Owner && owner && b.Count > 0; b.Owner != want {
			t.Errorf("Split(%+v, %d, %v, %v): is the owner's given: %v", h, count, owner, data, b.Owner)
		}
	})
}

// P2.2: the value goes where it is wanted, or the owner's goes, and stays where a token stays.
func TestSplitValue(t *testing.T) {
	everySplit(func(h api.Bundle, count int, owner, data bool) {
		b, rest := Split(h, count, owner, data)
		if want := h.Has && b.Count > 0 && (data || b.Owner); b.Has != want || b.Has && b.Data != h.Data {
			t.Errorf("Split(%+v, %d, %v, %v) gives %+v", h, count, owner, data, b)
		}
		if want := h.Has && rest.Count > 0; rest.Has != want || rest.Has && rest.Data != h.Data {
			t.Errorf("Split(%+v, %d, %v, %v) leaves %+v", h, count, owner, data, rest)
		}
	})
}

// P2.2: of tokens that can't be there is an answer, too.
func TestSplitOfWhatCantBe(t *testing.T) {
	everyBundle(func(h api.Bundle) {
		for _, count := range counts {
			for _, owner := range bools {
				for _, data := range bools {
					b, rest := Split(h, count, owner, data)
					again, left := Split(h, count, owner, data)
					if b != again || rest != left {
						t.Errorf("Split(%+v, %d, %v, %v) has two answers", h, count, owner, data)
					}
				}
			}
		}
	})
}

// P2.3
func TestJoin(t *testing.T) {
	rows := []struct{ h, b, want api.Bundle }{
		{none, none, none},
		{plain(1), plain(2), plain(3)},
		{none, plain(2), plain(2)},
		{plain(2), none, plain(2)},
		{none, owned(2, 7), owned(2, 7)},
		{owned(2, 7), none, owned(2, 7)},
		// the owner's on the one side or the other one
		{owned(1, 7), plain(2), owned(3, 7)},
		{plain(2), owned(1, 7), owned(3, 7)},
		{valued(2, 7), owned(1, 7), owned(3, 7)},
		{owned(1, 7), valued(2, 7), owned(3, 7)},
		// the value on the one side or the other one
		{valued(1, 7), plain(2), valued(3, 7)},
		{plain(2), valued(1, 7), valued(3, 7)},
		{plain(2), valued(1, 0), valued(3, 0)},
		{valued(1, 0), plain(2), valued(3, 0)},
		// both have one: b's
		{valued(1, 1), valued(2, 2), valued(3, 2)},
		{valued(1, 2), valued(2, 1), valued(3, 1)},
		{valued(1, 7), valued(2, 0), valued(3, 0)},
		{valued(1, 0), valued(2, 7), valued(3, 7)},
		{owned(1, 1), valued(2, 2), owned(3, 2)},
		{valued(1, 1), owned(2, 2), owned(3, 2)},
		{valued(1, math.MinInt64), valued(2, math.MaxInt64), valued(3, math.MaxInt64)},
		{valued(1, math.MaxInt64), valued(2, math.MinInt64), valued(3, math.MinInt64)},
		// tokens that Check refuses
		{plain(-1), plain(3), plain(2)},
		{plain(3), plain(-3), none},
		{owned(1, 1), owned(2, 2), owned(3, 2)},
		{api.Bundle{Count: 1, Owner: true}, plain(1), api.Bundle{Count: 2, Owner: true}},
		{api.Bundle{Has: true, Data: 7}, plain(1), valued(1, 7)},
		{plain(1), api.Bundle{Has: true, Data: 7}, valued(1, 7)},
		{api.Bundle{Count: 1, Data: 5}, plain(1), plain(2)},
		{plain(1), api.Bundle{Count: 1, Data: 5}, plain(2)},
		{valued(1, 7), api.Bundle{Count: 1, Data: 5}, valued(2, 7)},
		{api.Bundle{Count: 1, Data: 5}, valued(1, 7), valued(2, 7)},
		// the least and the greatest int
		{plain(math.MaxInt), none, plain(math.MaxInt)},
		{none, plain(math.MinInt), plain(math.MinInt)},
		{plain(math.MaxInt), plain(math.MinInt), plain(-1)},
		{plain(math.MaxInt - 1), owned(1, 7), owned(math.MaxInt, 7)},
	}
	for _, r := range rows {
		if got := Join(r.h, r.b); got != r.want {
			t.Errorf("Join(%+v, %+v): %+v, not %+v", r.h, r.b, got, r.want)
		}
	}
}

// P2.4: both parts may be, of so many tokens as h has.
func TestPartsMayBe(t *testing.T) {
	everySplit(func(h api.Bundle, count int, owner, data bool) {
		b, rest := Split(h, count, owner, data)
		for _, part := range []api.Bundle{b, rest} {
			if e := Check(part, h.Count); e != api.OK {
				t.Errorf("Split(%+v, %d, %v, %v): %+v may not be: %d", h, count, owner, data, part, e)
			}
		}
	})
}

// P2.4: together the parts are h, but for its value, if that went with none.
func TestPartsAreTheWhole(t *testing.T) {
	everySplit(func(h api.Bundle, count int, owner, data bool) {
		b, rest := Split(h, count, owner, data)
		want := h
		if !b.Has && !rest.Has {
			want.Has, want.Data = false, 0
		}
		if got := Join(rest, b); got != want {
			t.Errorf("Split(%+v, %d, %v, %v): with what is left, %+v, not %+v", h, count, owner, data, got, want)
		}
		if got := Join(b, rest); got != want {
			t.Errorf("Split(%+v, %d, %v, %v): with what is given, %+v, not %+v", h, count, owner, data, got, want)
		}
	})
}

// P2.4: nothing is made, and nothing is lost.
func TestNothingIsMadeOrLost(t *testing.T) {
	everySplit(func(h api.Bundle, count int, owner, data bool) {
		b, rest := Split(h, count, owner, data)
		if b.Count < 0 || rest.Count < 0 || b.Count+rest.Count != h.Count {
			t.Errorf("Split(%+v, %d, %v, %v): %d and %d tokens", h, count, owner, data, b.Count, rest.Count)
		}
		if b.Owner && rest.Owner || (b.Owner || rest.Owner) != h.Owner {
			t.Errorf("Split(%+v, %d, %v, %v): owner's: %v and %v", h, count, owner, data, b.Owner, rest.Owner)
		}
	})
}

// P2.4: the owner's token always has the value with it, and so the value is lost only where no owner's was.
func TestOwnersValueIsNeverLost(t *testing.T) {
	everySplit(func(h api.Bundle, count int, owner, data bool) {
		b, rest := Split(h, count, owner, data)
		if h.Owner && Join(rest, b) != h {
			t.Errorf("Split(%+v, %d, %v, %v): %+v and %+v", h, count, owner, data, b, rest)
		}
	})
}
