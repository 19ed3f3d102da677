package net

import (
	"math"
	"math/rand"
	"slices"
	"testing"

	"jeton/api"
)

// kinds are all that there are but the ask, of which alone one may be lost.
var kinds = []int{api.LTokens, api.LPersist, api.LActivate, api.LDone, api.LDeactivate, api.LAck}

// noKinds are such that there aren't.
var noKinds = []int{math.MinInt, math.MinInt + 1, -2, -1, 0, 8, 9, 64, math.MaxInt - 1, math.MaxInt}

// noPlaces are such that there aren't, however many letters there are.
var noPlaces = []int{
	math.MinInt, math.MinInt + 1, math.MinInt32 - 1, math.MinInt32, -65536, -9, -2, -1,
	65536, 65537, math.MaxInt32, math.MaxInt32 + 1, math.MaxInt - 1, math.MaxInt,
}

// lettersOf are so many of a kind, each with another mark.
func lettersOf(kind, count int) []api.Letter {
	all := make([]api.Letter, count)
	for i := range all {
		all[i] = api.Letter{Kind: kind, To: 1, Block: 2, Seq: i + 1, Tokens: api.Bundle{Count: 3, Data: int64(-i)}}
	}
	return all
}

// sent is a net of that room with letters on their way.
func sent(t *testing.T, room int, l ...api.Letter) *Net {
	t.Helper()
	n := New(room)
	if !n.Send(l...) {
		t.Fatalf("New(%d): Send of %d = false", room, len(l))
	}
	return n
}

// checkList tells where List isn't what is wanted.
func checkList(t *testing.T, n *Net, want ...api.Letter) {
	t.Helper()
	if got := n.List(); !slices.Equal(got, want) {
		t.Fatalf("List() = %v, not %v", got, want)
	}
}

// checkRoom tells where there isn't room for just so many more; what n has stays.
func checkRoom(t *testing.T, n *Net, more int) {
	t.Helper()
	had := n.List()
	if n.Send(lettersOf(api.LAck, more+1)...) {
		t.Fatalf("%d on their way: Send of %d = true", len(had), more+1)
	}
	checkList(t, n, had...)
	extra := lettersOf(api.LAck, more)
	if !n.Send(extra...) {
		t.Fatalf("%d on their way: Send of %d = false", len(had), more)
	}
	checkList(t, n, append(slices.Clone(had), extra...)...)
	if n.Send(api.Letter{Kind: api.LAsk}) {
		t.Fatalf("%d on their way: Send of one more = true", len(had)+more)
	}
	for range more {
		if _, ok := n.Take(len(had)); !ok {
			t.Fatalf("Take(%d) = false", len(had))
		}
	}
	checkList(t, n, had...)
}

// without is a list without what is at a place.
func without(l []api.Letter, at int) []api.Letter {
	return append(slices.Clone(l[:at]), l[at+1:]...)
}

// P6.1: the chapter's example.
func TestExample(t *testing.T) {
	n := New(1)
	l := lettersOf(api.LTokens, 2)
	if n.Send(l...) {
		t.Error("Send of two = true")
	}
	checkList(t, n)
	if !n.Send(l[1]) {
		t.Error("Send of one = false")
	}
	if got, ok := n.Take(0); got != l[1] || !ok {
		t.Errorf("Take(0) = %v, %t", got, ok)
	}
	if got, ok := n.Take(0); got != (api.Letter{}) || ok {
		t.Errorf("then Take(0) = %v, %t", got, ok)
	}
	checkList(t, n)
}

// P6.1: a new one has none on their way, and the room that is asked for, within 0 to MaxCap.
func TestNewRoom(t *testing.T) {
	rows := []struct{ room, want int }{
		{math.MinInt, 0}, {math.MinInt + 1, 0}, {math.MinInt32 - 1, 0}, {-65536, 0}, {-5, 0}, {-1, 0},
		{0, 0}, {1, 1}, {2, 2}, {3, 3}, {17, 17}, {64, 64}, {65, 65}, {1000, 1000},
		{65535, 65535}, {65536, 65536}, {65537, 65536}, {131072, 65536},
		{math.MaxInt32, 65536}, {math.MaxInt32 + 1, 65536}, {math.MaxInt - 1, 65536}, {math.MaxInt, 65536},
	}
	for _, r := range rows {
		n := New(r.room)
		checkList(t, n)
		if _, ok := n.Take(0); ok || n.Drop(0) {
			t.Errorf("New(%d) has a letter", r.room)
		}
		if !n.Send() {
			t.Errorf("New(%d): Send of none = false", r.room)
		}
		checkRoom(t, n, r.want)
	}
}

// P6.1: the room is the same for letters that go one at a time.
func TestSendOneAtATime(t *testing.T) {
	for _, room := range []int{-1, 0, 1, 2, 5, 70, 65536, 65537} {
		n, want := New(room), max(0, min(room, 65536))
		all := lettersOf(api.LAsk, want)
		for i, l := range all {
			if !n.Send(l) {
				t.Fatalf("room %d: Send at %d = false", room, i)
			}
		}
		for _, l := range lettersOf(api.LTokens, 3) {
			if n.Send(l) {
				t.Fatalf("room %d: Send beyond = true", room)
			}
		}
		checkList(t, n, all...)
	}
}

// P6.1: several go behind those that are, in order, all or none.
func TestSendSeveral(t *testing.T) {
	const room = 7
	all := lettersOf(api.LPersist, 2*room+2)
	for had := 0; had <= room; had++ {
		for more := 0; more <= room+2; more++ {
			n := sent(t, room, all[:had]...)
			fits := had+more <= room
			if got := n.Send(all[had : had+more]...); got != fits {
				t.Errorf("%d on their way: Send of %d = %t", had, more, got)
			}
			if fits {
				checkList(t, n, all[:had+more]...)
				checkRoom(t, n, room-had-more)
			} else {
				checkList(t, n, all[:had]...)
				checkRoom(t, n, room-had)
			}
		}
	}
}

// P6.1: nil and an empty list are one, and go even where there is no room.
func TestSendNone(t *testing.T) {
	full := sent(t, 2, lettersOf(api.LAsk, 2)...)
	for _, n := range []*Net{New(-1), New(0), New(3), full} {
		had := n.List()
		var none []api.Letter
		if !n.Send() || !n.Send(none...) || !n.Send([]api.Letter{}...) {
			t.Errorf("%d on their way: Send of none = false", len(had))
		}
		checkList(t, n, had...)
	}
}

// P6.1: whatever letters come as they went, and equal ones are each on their way.
func TestSendWhatever(t *testing.T) {
	all := []api.Letter{
		{},
		{},
		{Kind: api.LAsk, From: math.MinInt, To: math.MaxInt, Block: -1, Seq: -7, Who: 99, Write: true},
		{Kind: 9, Tokens: api.Bundle{Count: -3, Owner: true, Has: true, Data: math.MinInt64}},
		{Kind: math.MinInt, Tokens: api.Bundle{Count: math.MaxInt, Data: math.MaxInt64}},
		{Kind: math.MaxInt, Who: math.MinInt},
		{},
	}
	n := sent(t, len(all), all...)
	checkList(t, n, all...)
	for i, want := range all {
		if got, ok := n.Take(0); got != want || !ok {
			t.Errorf("Take of %d = %v, %t", i, got, ok)
		}
	}
	checkList(t, n)
}

// P6.1: Take of each place of each number of letters; the others keep their order, and its room is free.
func TestTakeEachPlace(t *testing.T) {
	const room = 9
	for count := range room + 1 {
		all := lettersOf(api.LTokens, count)
		for at := range count {
			n := sent(t, room, all...)
			if got, ok := n.Take(at); got != all[at] || !ok {
				t.Errorf("%d letters: Take(%d) = %v, %t", count, at, got, ok)
			}
			checkList(t, n, without(all, at)...)
			checkRoom(t, n, room-count+1)
		}
	}
}

// P6.1: where there is none, Take's letter is zero, and it and Drop do nothing.
func TestTakeAndDropAtNoPlace(t *testing.T) {
	for count := range 6 {
		for _, kind := range []int{api.LAsk, api.LTokens} {
			all := lettersOf(kind, count)
			n := sent(t, 6, all...)
			places := []int{-count, -count - 1, count, count + 1, count + 2, 2*count + 1, 6, 7}
			for _, at := range append(places, noPlaces...) {
				if 0 <= at && at < count {
					continue
				}
				if got, ok := n.Take(at); got != (api.Letter{}) || ok {
					t.Errorf("%d letters: Take(%d) = %v, %t", count, at, got, ok)
				}
				if n.Drop(at) {
					t.Errorf("%d letters: Drop(%d) = true", count, at)
				}
				checkList(t, n, all...)
			}
			checkRoom(t, n, 6-count)
		}
	}
}

// P6.1: an ask at each place of each number of letters is lost; the others keep their order, and its room is free.
func TestDropOfAsks(t *testing.T) {
	const room = 9
	for count := range room + 1 {
		for at := range count {
			for _, others := range []int{api.LAsk, api.LTokens} {
				all := lettersOf(others, count)
				all[at].Kind = api.LAsk
				n := sent(t, room, all...)
				if !n.Drop(at) {
					t.Errorf("%d letters: Drop(%d) = false", count, at)
				}
				checkList(t, n, without(all, at)...)
				checkRoom(t, n, room-count+1)
			}
		}
	}
}

// P6.1: no letter of another kind is lost, of such that there aren't too, wherever it is among asks.
func TestDropOfOthers(t *testing.T) {
	for _, kind := range append(slices.Clone(kinds), noKinds...) {
		for at := range 5 {
			all := lettersOf(api.LAsk, 5)
			all[at].Kind = kind
			n := sent(t, 6, all...)
			if n.Drop(at) {
				t.Errorf("Drop of kind %d = true", kind)
			}
			checkList(t, n, all...)
			checkRoom(t, n, 1)
			if got, ok := n.Take(at); got != all[at] || !ok {
				t.Errorf("Take of kind %d = %v, %t", kind, got, ok)
			}
		}
	}
}

// P6.1: places are counted anew behind each call, and what is sent then is behind all.
func TestOrderBehindEachCall(t *testing.T) {
	l := lettersOf(api.LAsk, 8)
	n := sent(t, 6, l[:5]...)
	n.Take(1)
	checkList(t, n, l[0], l[2], l[3], l[4])
	n.Drop(1)
	checkList(t, n, l[0], l[3], l[4])
	n.Send(l[5], l[6])
	checkList(t, n, l[0], l[3], l[4], l[5], l[6])
	n.Drop(4)
	checkList(t, n, l[0], l[3], l[4], l[5])
	n.Take(0)
	checkList(t, n, l[3], l[4], l[5])
	n.Send(l[7], l[0], l[1])
	checkList(t, n, l[3], l[4], l[5], l[7], l[0], l[1])
	if n.Send(l[2]) {
		t.Error("Send beyond the room = true")
	}
	checkList(t, n, l[3], l[4], l[5], l[7], l[0], l[1])
}

// P6.1: what List tells is the caller's own, its spare room too, and no later call is to be seen in it.
func TestListIsTheCallers(t *testing.T) {
	all := lettersOf(api.LAsk, 6)
	n := sent(t, 9, all...)
	first, second := n.List(), n.List()
	for i := range first {
		first[i] = api.Letter{Kind: -1}
	}
	for range 20 {
		first = append(first, api.Letter{Kind: -2})
	}
	checkList(t, n, all...)
	n.Take(0)
	n.Take(2)
	n.Drop(3)
	n.Send(lettersOf(api.LAck, 5)...)
	if !slices.Equal(second, all) {
		t.Errorf("List told %v", second)
	}
	checkList(t, n, append([]api.Letter{all[1], all[2], all[4]}, lettersOf(api.LAck, 5)...)...)
}

// P6.1: what Send is handed stays as it is, its spare room too, and is not kept.
func TestSendKeepsNothing(t *testing.T) {
	for _, had := range []int{0, 1, 3} {
		all := lettersOf(api.LAsk, 12)
		whole := slices.Clone(all)
		n := sent(t, 20, lettersOf(api.LDone, had)...)
		if !n.Send(all[2:5]...) || !n.Send(all[5:6]...) {
			t.Fatal("Send = false")
		}
		n.Take(had)
		n.Drop(had)
		n.Send(lettersOf(api.LAck, 4)...)
		n.Take(0)
		n.Take(0)
		if !slices.Equal(all, whole) {
			t.Fatalf("Send's letters are %v", all)
		}
		want := n.List()
		for i := range all {
			all[i] = api.Letter{Kind: -1}
		}
		checkList(t, n, want...)
	}
}

// P6.1: one that didn't go isn't kept either.
func TestSendThatFailsKeepsNothing(t *testing.T) {
	all := lettersOf(api.LAsk, 4)
	whole := slices.Clone(all)
	n := New(3)
	if n.Send(all...) {
		t.Error("Send of 4 = true")
	}
	checkList(t, n)
	if !slices.Equal(all, whole) {
		t.Errorf("Send's letters are %v", all)
	}
	if !n.Send(all[:3]...) {
		t.Error("Send of 3 = false")
	}
	checkList(t, n, whole[:3]...)
}

// P6.1: a copy has the room and the letters.
func TestCopyIsLikeIt(t *testing.T) {
	for _, room := range []int{-3, 0, 1, 2, 6, 65536, 65537} {
		held := max(0, min(room, 65536))
		for count := range min(held, 6) + 1 {
			all := lettersOf(api.LAsk, count)
			n := sent(t, room, all...)
			c := n.Copy()
			checkList(t, c, all...)
			checkRoom(t, c, held-count)
			checkList(t, c.Copy(), all...)
			checkRoom(t, c.Copy(), held-count)
		}
	}
}

// changes are what may be done with one of two that know nothing of each other.
func changes() []func(*Net) {
	return []func(*Net){
		func(n *Net) { n.Take(0) },
		func(n *Net) { n.Take(2) },
		func(n *Net) { n.Take(4) },
		func(n *Net) { n.Drop(1) },
		func(n *Net) { n.Drop(3) },
		func(n *Net) { n.Send(lettersOf(api.LPersist, 1)...) },
		func(n *Net) { n.Send(lettersOf(api.LAck, 3)...) },
		func(n *Net) { n.Take(0); n.Take(0); n.Send(lettersOf(api.LDone, 4)...) },
		func(n *Net) {
			for range 5 {
				n.Take(0)
			}
			n.Send(lettersOf(api.LDone, 8)...)
		},
	}
}

// P6.1: neither of a net and its copy knows what becomes of the other, whichever is changed, and first.
func TestCopiesKnowNothingOfEachOther(t *testing.T) {
	all := lettersOf(api.LAsk, 8)
	for i, one := range changes() {
		for j, other := range changes() {
			n := sent(t, 8, all...)
			n.Take(0)
			n.Take(0)
			n.Take(5)
			oneAlone := sent(t, 8, all[2:7]...)
			one(oneAlone)
			otherAlone := sent(t, 8, all[2:7]...)
			other(otherAlone)
			c := n.Copy()
			one(n)
			if !slices.Equal(c.List(), all[2:7]) {
				t.Fatalf("change %d of a net shows in its copy", i)
			}
			other(c)
			checkList(t, n, oneAlone.List()...)
			checkList(t, c, otherAlone.List()...)
			d := c.Copy()
			one(d)
			if !slices.Equal(c.List(), otherAlone.List()) {
				t.Fatalf("change %d of a copy shows in its net, behind %d", i, j)
			}
			checkList(t, n, oneAlone.List()...)
		}
	}
}

// book is what came of each letter that went, by its mark.
type book struct {
	net              *Net
	room, marks      int
	way              []api.Letter // what List must tell
	went, came, lost map[int]int
}

func newBook(room int) *book {
	return &book{net: New(room), room: max(0, min(room, api.MaxCap)), went: map[int]int{}, came: map[int]int{}, lost: map[int]int{}}
}

// send sends so many, of kinds in turn, every other an ask.
func (b *book) send(t *testing.T, count int) {
	t.Helper()
	var l []api.Letter
	for range count {
		b.marks++
		kind := api.LAsk
		if b.marks%2 == 0 {
			kind = kinds[b.marks/2%len(kinds)]
		}
		l = append(l, api.Letter{Kind: kind, Seq: b.marks})
	}
	fits := len(b.way)+count <= b.room
	if got := b.net.Send(l...); got != fits {
		t.Fatalf("%d on their way of %d: Send of %d = %t", len(b.way), b.room, count, got)
	}
	if fits {
		b.way = append(b.way, l...)
		for _, x := range l {
			b.went[x.Seq]++
		}
	}
}

func (b *book) take(t *testing.T, at int) {
	t.Helper()
	got, ok := b.net.Take(at)
	if there := 0 <= at && at < len(b.way); ok != there || !ok && got != (api.Letter{}) {
		t.Fatalf("%d on their way: Take(%d) = %v, %t", len(b.way), at, got, ok)
	}
	if ok {
		if got != b.way[at] {
			t.Fatalf("Take(%d) = %v, not %v", at, got, b.way[at])
		}
		b.came[got.Seq]++
		b.way = without(b.way, at)
	}
}

func (b *book) drop(t *testing.T, at int) {
	t.Helper()
	may := 0 <= at && at < len(b.way) && b.way[at].Kind == api.LAsk
	if got := b.net.Drop(at); got != may {
		t.Fatalf("%v on their way: Drop(%d) = %t", b.way, at, got)
	}
	if may {
		b.lost[b.way[at].Seq]++
		b.way = without(b.way, at)
	}
}

// check tells where what went isn't at just one end, or what didn't go is at any.
func (b *book) check(t *testing.T) {
	t.Helper()
	checkList(t, b.net, b.way...)
	if len(b.way) > b.room {
		t.Fatalf("%d on their way, of %d", len(b.way), b.room)
	}
	ends := map[int]int{}
	for _, l := range b.net.List() {
		ends[l.Seq]++
	}
	for mark := 1; mark <= b.marks; mark++ {
		if ends[mark]+b.came[mark]+b.lost[mark] != b.went[mark] || b.went[mark] > 1 {
			t.Fatalf("letter %d went %d times, came %d, was lost %d, is on its way %d", mark, b.went[mark], b.came[mark], b.lost[mark], ends[mark])
		}
		if b.lost[mark] > 0 && mark%2 == 0 {
			t.Fatalf("letter %d was lost, and may not be", mark)
		}
	}
}

// play does what a number says, of a few sorts of calls.
func (b *book) play(t *testing.T, call int) {
	t.Helper()
	switch call {
	case 0, 1, 2, 3:
		b.send(t, call)
	case 4, 5, 6, 7:
		b.take(t, call-5)
	case 8, 9, 10:
		b.drop(t, call-8)
	}
}

// calls are how many sorts of calls play knows.
const calls = 11

// P6.2: of all orders of a few calls, never more than the room, and each letter at one end.
func TestAllShortOrders(t *testing.T) {
	const long = 5
	orders := 1
	for range long {
		orders *= calls
	}
	for order := range orders {
		b := newBook(3)
		for rest, i := order, 0; i < long; rest, i = rest/calls, i+1 {
			b.play(t, rest%calls)
		}
		b.check(t)
	}
}

// P6.2: of long orders of calls, in nets small and great, too, and behind each call.
func TestLongOrders(t *testing.T) {
	for _, room := range []int{-1, 0, 1, 2, 3, 5, 8, 13, 40} {
		r := rand.New(rand.NewSource(int64(room)))
		b := newBook(room)
		for range 600 {
			at := r.Intn(len(b.way)+3) - 1
			switch r.Intn(5) {
			case 0, 1:
				b.send(t, r.Intn(5))
			case 2:
				b.take(t, at)
			case 3:
				b.drop(t, at)
			case 4: // the copy goes on, and the net that it is of does something else
				old := b.net
				b.net = old.Copy()
				old.Take(at)
				old.Send(api.Letter{Kind: api.LAsk, Seq: -1})
			}
			b.check(t)
		}
	}
}

// P6.2: the greatest net there may be, filled, and emptied from its front, from its end, and from both in turn.
func TestGreatest(t *testing.T) {
	all := lettersOf(api.LAsk, api.MaxCap)
	ends := []func(left int) int{
		func(left int) int { return 0 },
		func(left int) int { return left - 1 },
		func(left int) int { return left % 2 * (left - 1) },
	}
	for _, end := range ends {
		n := sent(t, api.MaxCap, all...)
		way := slices.Clone(all)
		for len(way) > 0 {
			at := end(len(way))
			if got, ok := n.Take(at); got != way[at] || !ok {
				t.Fatalf("%d on their way: Take(%d) = %v, %t", len(way), at, got, ok)
			}
			if at == 0 {
				way = way[1:]
			} else {
				way = way[:at]
			}
		}
		checkList(t, n)
		checkRoom(t, n, api.MaxCap)
	}
}
