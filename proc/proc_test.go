package proc

import (
	"math"
	"math/rand"
	"reflect"
	"slices"
	"testing"

	"jeton/api"
	"jeton/timer"
)

// Waits and numbers of tries: below what a world may have, within that, and above it.
var (
	someWaits = []int{
		math.MinInt, math.MinInt + 1, math.MinInt32 - 1, -65, -64, -2, -1, 0,
		1, 2, 3, 4, 5, 7, 8, 31, 32, 63, 64,
		65, 66, 100, 128, 1<<20 - 1, 1 << 20, 1<<20 + 1, math.MaxInt32 + 1, math.MaxInt - 1, math.MaxInt,
	}
	someTries = []int{
		math.MinInt, math.MinInt + 1, math.MinInt32 - 1, -9, -8, -2, -1, 0,
		1, 2, 3, 4, 5, 6, 7, 8,
		9, 10, 20, 21, 63, 64, 65, math.MaxInt32 + 1, math.MaxInt - 1, math.MaxInt,
	}
)

// ops are loads and stores, of any block and value, blocks that there can't be too.
func ops() []api.Op {
	var all []api.Op
	for _, block := range []int{
		math.MinInt, math.MinInt32 - 1, -65, -64, -2, -1, 0, 1, 2, 3, 62, 63, 64, 65, 1 << 32, math.MaxInt - 1, math.MaxInt,
	} {
		for _, value := range []int64{math.MinInt64, math.MinInt32 - 1, -7, -1, 0, 1, 7, 1 << 40, math.MaxInt64} {
			all = append(all, load(block, value), store(block, value))
		}
	}
	return all
}

// load has a value too, which plays no part in it, but is handed in all the same.
func load(block int, value int64) api.Op { return api.Op{Block: block, Value: value} }

func store(block int, value int64) api.Op { return api.Op{Block: block, Write: true, Value: value} }

// checkWaits tells where p doesn't wait for just that operation.
func checkWaits(t *testing.T, p *Proc, op api.Op) {
	t.Helper()
	if got, ok := p.Pending(); got != op || !ok {
		t.Fatalf("Pending() = %+v, %t, not %+v, true", got, ok, op)
	}
	if got := p.Pinned(); got != op.Block {
		t.Fatalf("Pinned() = %d, not %d", got, op.Block)
	}
}

// checkIdle tells where p waits for something; it ticks, and tries to finish, which does nothing then.
func checkIdle(t *testing.T, p *Proc) {
	t.Helper()
	for range 3 {
		if got, ok := p.Pending(); got != (api.Op{}) || ok {
			t.Fatalf("Pending() = %+v, %t, of one that waits for nothing", got, ok)
		}
		if got := p.Pinned(); got != -1 {
			t.Fatalf("Pinned() = %d, of one that waits for nothing", got)
		}
		if got, ok := p.Finish(); got != 0 || ok {
			t.Fatalf("Finish() = %d, %t, of one that waits for nothing", got, ok)
		}
		if got := p.Tick(); got != 0 {
			t.Fatalf("Tick() = %d, of one that waits for nothing", got)
		}
	}
}

// checkIssue tells where Issue isn't what is wanted.
func checkIssue(t *testing.T, p *Proc, op api.Op, want bool) {
	t.Helper()
	if got := p.Issue(op); got != want {
		t.Fatalf("Issue(%+v) = %t", op, got)
	}
}

// issued has an operation to wait for.
func issued(t *testing.T, wait, tries int, op api.Op) *Proc {
	t.Helper()
	p := New(wait, tries)
	checkIssue(t, p, op, true)
	return p
}

// checkFinish tells where Finish isn't that number, and true.
func checkFinish(t *testing.T, p *Proc, want int) {
	t.Helper()
	if got, ok := p.Finish(); got != want || !ok {
		t.Fatalf("Finish() = %d, %t, not %d, true", got, ok, want)
	}
}

// checkTicks tells where so many ticks aren't what is wanted.
func checkTicks(t *testing.T, p *Proc, want ...int) {
	t.Helper()
	for at, do := range want {
		if got := p.Tick(); got != do {
			t.Fatalf("tick %d is %d, not %d, with %+v", at+1, got, do, p)
		}
	}
}

// ticks tells what is to be done with each of so many ticks, by the timer's own answers.
func ticks(wait, tries, count int) []int {
	var all []int
	x := timer.Start(wait)
	for range count {
		var do int
		x, do = timer.Tick(x, wait, tries)
		all = append(all, do)
	}
	return all
}

// The chapter's example.
func TestExample(t *testing.T) {
	p := New(1, 0)
	checkIssue(t, p, load(0, 0), true)
	checkIssue(t, p, load(0, 0), false)
	checkTicks(t, p, 2, 0)
	checkFinish(t, p, 1)
}

// P14.1: the face is what the chapter lists: nobody changes the timer from outside.
func TestFace(t *testing.T) {
	face := reflect.TypeOf(New(1, 1))
	var names []string
	for i := range face.NumMethod() {
		names = append(names, face.Method(i).Name)
	}
	if want := []string{"Copy", "Finish", "Issue", "Pending", "Pinned", "Tick"}; !slices.Equal(names, want) {
		t.Errorf("a Proc has %v, not %v", names, want)
	}
	for _, field := range reflect.VisibleFields(face.Elem()) {
		if field.IsExported() {
			t.Errorf("a Proc shows %s", field.Name)
		}
	}
}

// P14.1: a new one waits for nothing, whatever wait and tries are.
func TestNew(t *testing.T) {
	for _, wait := range someWaits {
		for _, tries := range someTries {
			p := New(wait, tries)
			checkIdle(t, p)
			checkIssue(t, p, store(3, 7), true)
			checkWaits(t, p, store(3, 7))
		}
	}
}

// P14.1: two that are new are two.
func TestNewIsNew(t *testing.T) {
	p, q := New(1, 1), New(1, 1)
	checkIssue(t, p, store(3, 7), true)
	checkIdle(t, q)
	checkIssue(t, q, load(5, 0), true)
	checkWaits(t, p, store(3, 7))
	checkFinish(t, q, 1)
	checkFinish(t, p, 1)
}

// P14.1: it waits for the very operation that was issued, and pins its block, till that is over.
func TestIssue(t *testing.T) {
	for _, op := range ops() {
		p := issued(t, 2, 1, op)
		// What merely tells changes nothing, nor do ticks change the operation.
		for _, do := range []int{0, 1, 0, 0, 0, 2, 0, 0} {
			checkWaits(t, p, op)
			checkWaits(t, p, op)
			checkTicks(t, p, do)
		}
		checkWaits(t, p, op)
		checkFinish(t, p, 1)
		checkIdle(t, p)
	}
}

// P14.1: while it waits, no operation is taken: neither the one that it waits for, nor its count, is changed by that.
func TestIssueWhileItWaits(t *testing.T) {
	for _, op := range []api.Op{store(3, 7), load(3, 7), load(0, 0), store(-1, -1), store(math.MaxInt, math.MaxInt64)} {
		p := issued(t, 1, 8, op)
		for _, other := range append(ops(), op) {
			checkIssue(t, p, other, false)
			checkWaits(t, p, op)
		}
		checkFinish(t, p, 1)
		checkIdle(t, p)
		checkIssue(t, p, op, true)
		checkFinish(t, p, 2)
	}
}

// P14.1: an operation that isn't taken doesn't start the timer anew, wherever that is.
func TestIssueWhileItWaitsAndTicks(t *testing.T) {
	for wait := 1; wait <= 5; wait++ {
		for tries := range 4 {
			p := issued(t, wait, tries, store(3, 7))
			for _, do := range ticks(wait, tries, timer.Total(wait, tries)+9) {
				checkIssue(t, p, load(5, 0), false)
				checkIssue(t, p, store(3, 7), false)
				checkTicks(t, p, do)
			}
			checkWaits(t, p, store(3, 7))
			checkFinish(t, p, 1)
		}
	}
}

// P14.1: what is to be done with each tick, told in numbers.
func TestTick(t *testing.T) {
	for _, row := range []struct {
		wait, tries int
		want        []int
	}{
		{1, 0, []int{2, 0, 0, 0}},
		{1, 1, []int{1, 0, 2, 0, 0}},
		{1, 2, []int{1, 0, 1, 0, 0, 0, 2, 0, 0}},
		{2, 0, []int{0, 2, 0, 0}},
		{2, 1, []int{0, 1, 0, 0, 0, 2, 0, 0}},
		{3, 1, []int{0, 0, 1, 0, 0, 0, 0, 0, 2, 0, 0}},
		{5, 0, []int{0, 0, 0, 0, 2, 0, 0}},
		// tries below 0
		{1, -1, []int{2, 0, 0}},
		{2, -8, []int{0, 2, 0, 0}},
		{3, math.MinInt, []int{0, 0, 2, 0, 0}},
		// waits below 1: no tick is left behind the first one, nor behind each try
		{0, 0, []int{2, 0, 0}},
		{0, 1, []int{1, 2, 0, 0}},
		{-1, 2, []int{1, 1, 2, 0, 0}},
		{math.MinInt, 3, []int{1, 1, 1, 2, 0, 0}},
		{-64, 9, []int{1, 1, 1, 1, 1, 1, 1, 1, 1, 2, 0, 0}},
		{0, math.MaxInt, []int{1, 1, 1, 1, 1, 1, 1, 1, 1, 1, 1, 1}},
		{math.MinInt, math.MinInt, []int{2, 0, 0}},
		// so long that nothing is done for now
		{math.MaxInt, 0, []int{0, 0, 0, 0}},
		{math.MaxInt, math.MaxInt, []int{0, 0, 0, 0}},
	} {
		p := issued(t, row.wait, row.tries, store(3, 7))
		checkTicks(t, p, row.want...)
		checkWaits(t, p, store(3, 7))
	}
}

// P14.1: what is to be done is what the timer itself answers, of any wait and tries.
func TestTickIsTheTimers(t *testing.T) {
	for _, wait := range someWaits {
		for _, tries := range someTries {
			checkTicks(t, issued(t, wait, tries, load(0, 0)), ticks(wait, tries, 1500)...)
		}
	}
}

// P14.1: a wait, and tries, above what a world may have aren't taken for less.
func TestTickOfGreatOnes(t *testing.T) {
	for _, row := range []struct{ wait, tries int }{
		{65, 0}, {65, 8}, {100, 9}, {1, 9}, {64, 9}, {1, 21}, {3, 20}, {1<<20 - 1, 1}, {1 << 20, 1}, {1<<20 + 1, 1},
	} {
		p, x := issued(t, row.wait, row.tries, store(3, 7)), timer.Start(row.wait)
		for at := 1; !x.Over; at++ {
			var do int
			if x, do = timer.Tick(x, row.wait, row.tries); p.Tick() != do {
				t.Fatalf("wait %d, tries %d: tick %d isn't %d", row.wait, row.tries, at, do)
			}
		}
		checkTicks(t, p, make([]int, 100)...)
	}
}

// P14.2: of all waits and tries that a world may have, it is asked for persistently with just the tick that Total tells, once; ahead of that it is asked for again tries times.
func TestTotal(t *testing.T) {
	for wait := 1; wait <= api.MaxWait; wait++ {
		for tries := range api.MaxTries + 1 {
			p, last, again := issued(t, wait, tries, store(3, 7)), timer.Total(wait, tries), 0
			for at := 1; at < last; at++ {
				switch do := p.Tick(); do {
				case 0:
				case 1:
					again++
				default:
					t.Fatalf("wait %d, tries %d: tick %d of %d is %d", wait, tries, at, last, do)
				}
			}
			if again != tries {
				t.Errorf("wait %d, tries %d: asked for again %d times", wait, tries, again)
			}
			checkTicks(t, p, 2)
			checkTicks(t, p, make([]int, last+200)...)
			checkWaits(t, p, store(3, 7))
		}
	}
}

// P14.1: behind the 2 there is nothing to be done, for ever; it waits still, and can be over.
func TestTickBehindTheEnd(t *testing.T) {
	for _, tries := range []int{math.MinInt, -1, 0} {
		for _, wait := range []int{math.MinInt, 0, 1} {
			p := issued(t, wait, tries, load(4, 2))
			checkTicks(t, p, 2)
			checkTicks(t, p, make([]int, 1<<17)...)
			checkWaits(t, p, load(4, 2))
			checkIssue(t, p, load(4, 2), false)
			checkFinish(t, p, 1)
			checkIdle(t, p)
		}
	}
}

// P14.1: the timer starts with Issue: ticks for one operation, and such for none, play no part for the next one.
func TestTimerStartsAnew(t *testing.T) {
	for _, row := range []struct{ wait, tries int }{{1, 0}, {1, 2}, {2, 1}, {3, 0}, {3, 2}, {0, 2}, {4, -1}, {65, 1}} {
		want := ticks(row.wait, row.tries, 300)
		for ahead := range 30 {
			for _, idle := range []int{0, 1, 2, 7, 300} {
				p := New(row.wait, row.tries)
				checkTicks(t, p, make([]int, idle)...)
				checkIssue(t, p, store(3, 7), true)
				checkTicks(t, p, want[:ahead]...)
				checkFinish(t, p, 1)
				checkTicks(t, p, make([]int, idle)...)
				checkIssue(t, p, load(5, 0), true)
				checkTicks(t, p, want...)
				// Behind the end too, and of the same operation once more.
				checkFinish(t, p, 2)
				checkIssue(t, p, load(5, 0), true)
				checkTicks(t, p, want...)
			}
		}
	}
}

// P14.1, P14.2: those that are over are counted from 1 on, as they were issued; what isn't over, and what wasn't taken, doesn't count.
func TestFinish(t *testing.T) {
	p := New(2, 1)
	checkIdle(t, p)
	for number, op := range ops() {
		checkIssue(t, p, op, true)
		checkIssue(t, p, store(9, 9), false)
		checkTicks(t, p, ticks(2, 1, number%9)...)
		checkWaits(t, p, op)
		checkFinish(t, p, number+1)
		if got, ok := p.Finish(); got != 0 || ok {
			t.Fatalf("it is over again: Finish() = %d, %t", got, ok)
		}
		if number%2 == 0 {
			checkIdle(t, p)
		}
	}
}

// P14.2: very many are counted still.
func TestFinishOfMany(t *testing.T) {
	p := New(1, 0)
	for number := 1; number <= 1<<17+5; number++ {
		checkIssue(t, p, load(number, 0), true)
		checkFinish(t, p, number)
	}
	checkIdle(t, p)
}

// P14.1: a copy waits for the same, with the timer, the wait, the tries and the count that it was made of.
func TestCopyIsLikeIt(t *testing.T) {
	for _, row := range []struct{ wait, tries int }{{1, 0}, {2, 1}, {3, 2}, {0, 2}, {5, -1}, {65, 1}} {
		want := ticks(row.wait, row.tries, 300)
		p := New(row.wait, row.tries)
		for number := range 40 {
			c := p.Copy()
			checkIdle(t, c)
			checkIssue(t, c, store(3, 7), true)
			checkTicks(t, c, want...)
			checkFinish(t, c, number+1)

			checkIssue(t, p, load(number, 5), true)
			checkTicks(t, p, want[:number]...)
			c = p.Copy().Copy()
			checkWaits(t, c, load(number, 5))
			checkIssue(t, c, store(3, 7), false)
			checkTicks(t, c, want[number:]...)
			checkFinish(t, c, number+1)
			checkFinish(t, p, number+1)
		}
	}
}

// P14.1: neither a copy nor what it was made of knows what becomes of the other one.
func TestCopyIsOnItsOwn(t *testing.T) {
	starts := map[string]func() *Proc{
		"waits": func() *Proc {
			p := issued(t, 2, 1, load(1, 1))
			checkFinish(t, p, 1)
			checkIssue(t, p, store(3, 7), true)
			checkTicks(t, p, 0, 1, 0)
			return p
		},
		"waits for nothing": func() *Proc {
			p := issued(t, 2, 1, load(1, 1))
			checkTicks(t, p, 0, 1, 0)
			checkFinish(t, p, 1)
			return p
		},
	}
	unchanged := map[string]func(p *Proc){
		"waits": func(p *Proc) {
			checkWaits(t, p, store(3, 7))
			checkTicks(t, p, 0, 0, 2, 0)
			checkFinish(t, p, 2)
			checkIdle(t, p)
		},
		"waits for nothing": func(p *Proc) {
			checkIdle(t, p)
			checkIssue(t, p, load(6, 0), true)
			checkTicks(t, p, 0, 1, 0, 0, 0, 2, 0)
			checkFinish(t, p, 2)
		},
	}
	changes := []func(p *Proc){
		func(p *Proc) { p.Tick() },
		func(p *Proc) { p.Finish() },
		func(p *Proc) { p.Issue(load(9, 9)) },
		func(p *Proc) { p.Finish(); p.Issue(store(9, 9)); p.Tick() },
		func(p *Proc) {
			for range 50 {
				p.Issue(load(9, 9))
				p.Tick()
			}
		},
		func(p *Proc) {
			for range 50 {
				p.Issue(load(9, 9))
				p.Finish()
			}
		},
	}
	for name, start := range starts {
		for _, change := range changes {
			p := start()
			c := p.Copy()
			change(c)
			unchanged[name](p)

			p = start()
			c = p.Copy()
			change(p)
			unchanged[name](c)
		}
	}
}

// plain is what the promises say in so many words: all that was issued, how many of these are over, and the ticks since the last one.
type plain struct {
	wait, tries  int
	issued       []api.Op
	over, ticked int
}

func (p *plain) waits() bool { return p.over < len(p.issued) }

func (p *plain) pending() (api.Op, bool) {
	if !p.waits() {
		return api.Op{}, false
	}
	return p.issued[p.over], true
}

func (p *plain) issue(op api.Op) bool {
	if p.waits() {
		return false
	}
	p.issued, p.ticked = append(p.issued, op), 0
	return true
}

func (p *plain) finish() (int, bool) {
	if !p.waits() {
		return 0, false
	}
	p.over++
	return p.over, true
}

func (p *plain) tick() int {
	if !p.waits() {
		return 0
	}
	p.ticked++
	return ticks(p.wait, p.tries, p.ticked)[p.ticked-1]
}

func (p *plain) copy() *plain {
	c := *p
	c.issued = slices.Clone(p.issued)
	return &c
}

// Kinds of calls.
const (
	callIssue = iota
	callFinish
	callTick
	callCopy
)

// call is one of them; what it is issued with, if it is that.
type call struct {
	kind int
	op   api.Op
}

// both has a call done by a Proc and by a plain one, tells where they differ, and answers what goes on.
func (x call) both(t *testing.T, p *Proc, q *plain) (*Proc, *plain) {
	t.Helper()
	switch x.kind {
	case callIssue:
		checkIssue(t, p, x.op, q.issue(x.op))
	case callFinish:
		got, ok := p.Finish()
		if want, done := q.finish(); got != want || ok != done {
			t.Fatalf("Finish() = %d, %t, not %d, %t, of %+v", got, ok, want, done, q)
		}
	case callTick:
		if got, want := p.Tick(), q.tick(); got != want {
			t.Fatalf("Tick() = %d, not %d, of %+v", got, want, q)
		}
	case callCopy:
		p, q = p.Copy(), q.copy()
	}
	got, ok := p.Pending()
	if want, waits := q.pending(); got != want || ok != waits {
		t.Fatalf("Pending() = %+v, %t, not %+v, %t, behind %+v", got, ok, want, waits, x)
	}
	pinned := -1
	if q.waits() {
		pinned = got.Block
	}
	if got := p.Pinned(); got != pinned {
		t.Fatalf("Pinned() = %d, not %d, behind %+v", got, pinned, x)
	}
	return p, q
}

// P14.1, P14.2: all orders of a few calls, from each point of them on a copy, are as the promises say.
func TestAllOrders(t *testing.T) {
	calls := []call{
		{callIssue, store(3, 7)}, {callIssue, load(0, 0)}, {kind: callFinish}, {kind: callTick}, {kind: callCopy},
	}
	var follow func(p *Proc, q *plain, left int)
	follow = func(p *Proc, q *plain, left int) {
		if left == 0 {
			return
		}
		for _, x := range calls {
			p, q := x.both(t, p.Copy(), q.copy())
			follow(p, q, left-1)
		}
	}
	for _, row := range []struct{ wait, tries int }{{1, 0}, {1, 1}, {2, 0}, {0, 2}} {
		follow(New(row.wait, row.tries), &plain{wait: row.wait, tries: row.tries}, 6)
	}
}

// P14.1, P14.2: long ones, of any operations, are as the promises say.
func TestLongOnes(t *testing.T) {
	r, all := rand.New(rand.NewSource(14)), ops()
	for range 300 {
		wait, tries := r.Intn(8)-2, r.Intn(5)-1
		p, q := New(wait, tries), &plain{wait: wait, tries: tries}
		for range 400 {
			x := call{kind: callTick}
			switch r.Intn(12) {
			case 0, 1, 2:
				x = call{callIssue, all[r.Intn(len(all))]}
			case 3:
				x.kind = callFinish
			case 4:
				x.kind = callCopy
			}
			p, q = x.both(t, p, q)
		}
	}
}
