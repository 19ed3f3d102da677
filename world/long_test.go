package world

import (
	"math"
	"math/rand"
	"reflect"
	"slices"
	"testing"

	"jeton/advice"
	"jeton/api"
	"jeton/home"
	"jeton/letter"
	"jeton/node"
)

// plain is what the promises say in so many words: each entry is tried on a copy of all, which is taken if there is room for its letters.
type plain struct {
	c            api.Config
	nodes        []*node.Node
	home         *home.Home
	flight       []api.Letter
	steps, ticks int
}

func newPlain(t *testing.T, c api.Config) *plain {
	t.Helper()
	h, e := home.New(c)
	if e != api.OK {
		t.Fatalf("there is no home of %+v: %d", c, e)
	}
	p := &plain{c: c, home: h}
	for id := range c.Nodes {
		n, e := node.New(c, id)
		if e != api.OK {
			t.Fatalf("there is no node %d of %+v: %d", id, c, e)
		}
		p.nodes = append(p.nodes, n)
	}
	return p
}

func (p *plain) copy() *plain {
	q := *p
	q.home, q.flight, q.nodes = p.home.Copy(), slices.Clone(p.flight), nil
	for _, n := range p.nodes {
		q.nodes = append(q.nodes, n.Copy())
	}
	return &q
}

func (p *plain) step(e api.Entry) (int, []api.Done) {
	p.steps++
	q := p.copy()
	var out node.Out
	d := advice.Draws{e.B, e.C, e.D}
	has := e.A >= 0 && e.A < len(p.flight)
	switch {
	case e.Kind == api.EOp && e.A >= 0 && e.A < p.c.Nodes && e.B >= 0 && e.B < p.c.Blocks && (e.C == 0 || e.C == 1) && !p.nodes[e.A].Place().Busy:
		op := api.Op{Block: e.B}
		if e.C == 1 {
			op.Write, op.Value = true, int64(e.D)
		}
		out, _ = q.nodes[e.A].Issue(op, advice.Draws{})
	case e.Kind == api.EDeliver && has:
		l := p.flight[e.A]
		q.flight = append(slices.Clone(p.flight[:e.A]), p.flight[e.A+1:]...)
		if l.To < p.c.Nodes {
			out = q.nodes[l.To].Take(l, d)
		} else {
			out.Letters = q.home.Take(l, d)
		}
	case e.Kind == api.EDrop && has && p.flight[e.A].Kind == api.LAsk:
		q.flight = append(slices.Clone(p.flight[:e.A]), p.flight[e.A+1:]...)
	case e.Kind == api.ETick:
		q.ticks++
		for id := 0; id < p.c.Nodes; id++ {
			o := q.nodes[id].Tick(d)
			out.Letters, out.Done = append(out.Letters, o.Letters...), append(out.Done, o.Done...)
		}
	default:
		return api.RNothing, nil
	}
	q.flight = append(q.flight, out.Letters...)
	if len(q.flight) > p.c.Cap {
		return api.RRefused, nil
	}
	*p = *q
	var over []api.Done
	for _, o := range out.Done {
		o.Step = p.steps
		over = append(over, o)
	}
	return api.RDone, over
}

func (p *plain) look() api.Shot {
	s := api.Shot{Steps: p.steps, Ticks: p.ticks, Home: p.home.All(), Flight: slices.Clone(p.flight)}
	for _, n := range p.nodes {
		s.Nodes = append(s.Nodes, n.Place())
	}
	return tidy(s)
}

// both has a World and a plain one take an entry, tells where they differ, and answers what comes of it.
func both(t *testing.T, w *World, p *plain, e api.Entry) (int, []api.Done) {
	t.Helper()
	got, done := w.Step(e)
	if want, over := p.step(e); got != want || !slices.Equal(done, over) {
		t.Fatalf("of %+v comes %d, %+v, not %d, %+v, with %+v", e, got, done, want, over, p.c)
	}
	if x, y := look(w), p.look(); !reflect.DeepEqual(x, y) {
		t.Fatalf("behind %+v it looks as %+v, not as %+v", e, x, y)
	}
	return got, done
}

// P17.1 to P17.3: all orders of a few entries, from each point of them on a copy, are as the promises say, for several rooms.
func TestAllOrders(t *testing.T) {
	all := []api.Entry{
		store(0, 0, 7), load(1, 0), store(1, 1, 8), tick, drop(0), drop(1),
		advised(deliver(0), 1, 3, 0), deliver(1), advised(deliver(2), 2, 2, 0), {Kind: 9},
	}
	var follow func(w *World, p *plain, left int)
	follow = func(w *World, p *plain, left int) {
		if left == 0 {
			return
		}
		for _, e := range all {
			w, p := w.Copy(), p.copy()
			both(t, w, p, e)
			follow(w, p, left-1)
		}
	}
	for room := 1; room < 6; room++ {
		c := small([]int{api.PNull, api.PTokenB, api.PScript, api.PNull, api.PTokenB}[room-1], room)
		c.Blocks = 2
		follow(made(t, c), newPlain(t, c), 4)
	}
}

// chance draws entries, mostly such as bring something about.
type chance struct {
	*rand.Rand
	c api.Config
}

// rooms are for few letters, for some, and for all.
var rooms = []int{1, 2, 3, 4, 5, 6, 8, 12, 20, 65536}

// chances are so many configurations, by each policy and for each room, each with what draws entries.
func chances(seed int64, count int) []chance {
	r := rand.New(rand.NewSource(seed))
	var all []chance
	for at := range count {
		c := api.Config{
			Nodes: 1 + r.Intn(4), Blocks: 1 + r.Intn(4), Tokens: 4 + r.Intn(4), Sets: 1 + r.Intn(2), Ways: 1 + r.Intn(3),
			Cap: rooms[at/3%len(rooms)], Wait: 1 + r.Intn(3), Tries: r.Intn(3), Policy: at % 3,
		}
		all = append(all, chance{rand.New(rand.NewSource(r.Int63())), c})
	}
	return all
}

// advise gives an entry advice that has it do much, more often than not.
func (r chance) advise(e api.Entry) api.Entry {
	switch r.Intn(3) {
	case 0:
		e.B, e.C = r.Intn(r.c.Tokens+1), r.Intn(4)
	case 1:
		e.B, e.C, e.D = int(r.Uint64()), int(r.Uint64()), int(r.Uint64())
	}
	return e
}

// number is from 0 to count - 1, but for few.
func (r chance) number(count int) int {
	if r.Intn(40) == 0 {
		return []int{-1, count, count + 1, math.MinInt, math.MaxInt}[r.Intn(5)]
	}
	return r.Intn(max(count, 1))
}

// entry is for a world with so many letters on their way.
func (r chance) entry(flight int) api.Entry {
	switch kind := r.Intn(20); {
	case kind < 5:
		return api.Entry{Kind: api.EOp, A: r.number(r.c.Nodes), B: r.number(r.c.Blocks), C: r.number(2), D: r.Intn(1000)}
	case kind < 8:
		return r.advise(api.Entry{Kind: api.ETick})
	case kind < 10:
		return r.advise(drop(r.number(flight)))
	case kind < 11 && r.Intn(4) == 0:
		return r.advise(api.Entry{Kind: r.Intn(9) - 2, A: r.number(flight)})
	case kind < 14 && flight > 0:
		return r.advise(deliver([]int{0, flight - 1}[r.Intn(2)]))
	}
	return r.advise(deliver(r.number(flight)))
}

// bundles are all tokens of a block, wherever they are.
func bundles(s api.Shot, block int) []api.Bundle {
	all := []api.Bundle{s.Home[block]}
	for _, p := range s.Nodes {
		for _, l := range p.Lines {
			if l.Block == block {
				all = append(all, l.Tokens)
			}
		}
	}
	for _, l := range s.Flight {
		if l.Kind == api.LTokens && l.Block == block {
			all = append(all, l.Tokens)
		}
	}
	return all
}

// checkTokens tells where a block hasn't just its tokens, one of them the owner's, with the value; and where another value is.
func checkTokens(t *testing.T, c api.Config, s api.Shot, values map[int]int64) {
	t.Helper()
	if len(s.Nodes) != c.Nodes || len(s.Home) != c.Blocks || len(s.Flight) > c.Cap {
		t.Fatalf("it looks as %+v", s)
	}
	for block := range c.Blocks {
		count, owners, all := 0, 0, bundles(s, block)
		for _, b := range all {
			count += b.Count
			if b.Owner {
				owners++
			}
			if b.Owner && !b.Has || b.Has && b.Data != values[block] || b.Count < 0 || b.Count == 0 && b != none {
				t.Fatalf("block %d is %d at %+v", block, values[block], b)
			}
		}
		if count != c.Tokens || owners != 1 {
			t.Fatalf("of block %d there are %d tokens, %d of them the owner's: %+v", block, count, owners, all)
		}
	}
	for _, l := range s.Flight {
		if e := letter.Check(c, l); e != api.OK {
			t.Fatalf("%+v is on its way, which may not be: %d", l, e)
		}
	}
}

// checkOver tells where what is over isn't as of a register, whose values are brought up to it, or by whom it may be, or of this step, or not the next of its node.
func checkOver(t *testing.T, c api.Config, s api.Shot, over []api.Done, values map[int]int64, numbers map[int]int) {
	t.Helper()
	for _, d := range over {
		if d.Op.Write {
			values[d.Op.Block] = d.Op.Value
		}
		numbers[d.Node]++
		if d.Value != values[d.Op.Block] || d.Step != s.Steps || d.Number != numbers[d.Node] {
			t.Fatalf("with step %d %+v is over, of value %d, as %d.", s.Steps, d, values[d.Op.Block], numbers[d.Node])
		}
		has := none
		for _, l := range s.Nodes[d.Node].Lines {
			if l.Block == d.Op.Block {
				has = l.Tokens
			}
		}
		if !has.Has || d.Op.Write && has.Count != c.Tokens {
			t.Fatalf("%+v is over with %+v", d, has)
		}
	}
}

// seen counts what a long script tries: by what came of entries, by kinds of letters, places and receivers, and by refusals.
type seen struct {
	results   [3]int
	delivered map[[3]int]int // by kind, where (first 0, in the midst 1, last 2), and to whom (a node 0, home 1)
	refused   map[[2]int]int // by the entry's kind, and the letter's
	over      int
}

func (y *seen) account(c api.Config, before []api.Letter, e api.Entry, got int, over []api.Done) {
	y.results[got]++
	y.over += len(over)
	kind := 0
	if e.Kind == api.EDeliver && got != api.RNothing {
		l := before[e.A]
		kind = l.Kind
		where, whom := 1, 0
		if e.A == len(before)-1 {
			where = 2
		}
		if e.A == 0 {
			where = 0
		}
		if l.To == c.Nodes {
			whom = 1
		}
		y.delivered[[3]int{kind, where, whom}]++
	}
	if got == api.RRefused {
		y.refused[[2]int{e.Kind, kind}]++
	}
}

// check tells what isn't tried.
func (y *seen) check(t *testing.T) {
	t.Helper()
	toNode := []int{api.LTokens, api.LAsk, api.LActivate, api.LDeactivate}
	toHome := []int{api.LTokens, api.LAsk, api.LPersist, api.LDone, api.LAck}
	for whom, kinds := range [][]int{toNode, toHome} {
		for _, kind := range kinds {
			for where := range 3 {
				if y.delivered[[3]int{kind, where, whom}] < 10 {
					t.Errorf("too few letters of kind %d at place %d come to %d", kind, where, whom)
				}
			}
		}
	}
	for _, what := range [][2]int{{api.EOp}, {api.ETick}, {api.EDeliver, api.LPersist}, {api.EDeliver, api.LDone}, {api.EDeliver, api.LAck}} {
		if y.refused[what] < 5 {
			t.Errorf("too few of %v are refused", what)
		}
	}
	for what, count := range y.results {
		if count < 1000 {
			t.Errorf("just %d times comes %d", count, what)
		}
	}
	if y.over < 1000 {
		t.Errorf("just %d operations are over", y.over)
	}
}

// P17.1 to P17.4: long scripts of all kinds, by each policy and for several rooms, are as the promises say; behind each entry all tokens of each block are there, one of them the owner's, with the value; what is nothing, or refused, leaves all but the steps; what is over is a register's.
func TestLongScripts(t *testing.T) {
	y := &seen{delivered: map[[3]int]int{}, refused: map[[2]int]int{}}
	for _, r := range chances(17, 600) {
		w, p := made(t, r.c), newPlain(t, r.c)
		values, numbers := map[int]int64{}, map[int]int{}
		for range 250 {
			before := look(w)
			e := r.entry(len(before.Flight))
			got, over := both(t, w, p, e)
			now := look(w)
			y.account(r.c, before.Flight, e, got, over)
			checkOver(t, r.c, now, over, values, numbers)
			checkTokens(t, r.c, now, values)
			if before.Steps++; got != api.RDone && (len(over) > 0 || !reflect.DeepEqual(now, before)) {
				t.Fatalf("of %+v comes %d, and it looks as %+v, not as %+v", e, got, now, before)
			}
			if r.Intn(20) == 0 {
				w = w.Copy()
			}
		}
	}
	y.check(t)
}

// P17.2, P17.3: what is nothing, or refused, leaves what isn't to be seen in a shot too: all that comes later comes as if it hadn't been tried.
func TestNothingIsLeftBehind(t *testing.T) {
	tried := map[int]int{}
	for _, r := range chances(18, 300) {
		w, without := made(t, r.c), made(t, r.c)
		for range 200 {
			e := r.entry(len(w.Shot().Flight))
			got, over := w.Step(e)
			tried[got]++
			if got != api.RDone {
				continue
			}
			more := w.Shot().Steps - without.Shot().Steps - 1
			want, done := without.Step(e)
			for at := range done {
				done[at].Step += more
			}
			if got != want || !slices.Equal(over, done) {
				t.Fatalf("of %+v comes %d, %+v, not %d, %+v", e, got, over, want, done)
			}
			x, y := look(w), look(without)
			y.Steps += more
			if !reflect.DeepEqual(x, y) {
				t.Fatalf("behind %+v it looks as %+v, not as %+v", e, x, y)
			}
		}
	}
	if tried[api.RNothing] < 1000 || tried[api.RRefused] < 1000 || tried[api.RDone] < 1000 {
		t.Errorf("just %v are tried", tried)
	}
}

// P17.1: neither a copy nor what it was made of knows what becomes of the other one: each answers as one does of which there is no copy.
func TestCopyIsOnItsOwn(t *testing.T) {
	for at, r := range chances(19, 300) {
		first, twin := made(t, r.c), made(t, r.c)
		for range r.Intn(150) {
			e := r.entry(len(first.Shot().Flight))
			first.Step(e)
			twin.Step(e)
		}
		copied := first.Copy()
		if x, y := look(copied), look(twin); !reflect.DeepEqual(x, y) {
			t.Fatalf("a copy looks as %+v, not as %+v", x, y)
		}
		stays, goes := first, copied
		if at%2 == 0 {
			stays, goes = copied, first
		}
		for range 100 {
			goes.Step(r.entry(len(goes.Shot().Flight)))
			e := r.entry(len(stays.Shot().Flight))
			got, over := stays.Step(e)
			if want, done := twin.Step(e); got != want || !slices.Equal(over, done) {
				t.Fatalf("of %+v comes %d, %+v, not %d, %+v", e, got, over, want, done)
			}
			if x, y := look(stays), look(twin); !reflect.DeepEqual(x, y) {
				t.Fatalf("behind %+v it looks as %+v, not as %+v", e, x, y)
			}
		}
	}
}

// P17.1: a copy, and a copy of it, has the same all over, and answers the same; that one goes on changes no other.
func TestCopies(t *testing.T) {
	for name, start := range starts {
		for _, policy := range policies {
			t.Log(name, policy)
			w := start(t, policy)
			c := w.Copy()
			d := c.Copy()
			checkSame(t, c, w, 0)
			checkSame(t, d, w, 0)
			for _, e := range probes(3, 4) {
				w.Step(e)
			}
			checkSame(t, c, start(t, policy), 0)
			for _, e := range slices.Backward(probes(3, 4)) {
				c.Step(e)
			}
			checkSame(t, d, start(t, policy), 0)
		}
	}
}

// spoil overwrites all of a list, and its spare room.
func spoil[T any](all []T, x T) {
	all = all[:cap(all)]
	for at := range all {
		all[at] = x
	}
}

// P17.1, P17.2: what Shot and Step tell is the caller's own, and no two lists of it share any; what was told stays.
func TestAnswersAreTheCallersOwn(t *testing.T) {
	for name, start := range starts {
		for _, policy := range policies {
			t.Log(name, policy)
			w := start(t, policy)
			s, want := w.Shot(), look(w)
			for at := range s.Nodes {
				spoil(s.Nodes[at].Lines, api.Line{Block: 9})
				spoil(s.Nodes[at].Actives, api.Active{Block: 9})
				_ = append(s.Nodes[at].Lines, api.Line{Block: 8})
				_ = append(s.Nodes[at].Actives, api.Active{Block: 8})
			}
			if !slices.Equal(s.Home, want.Home) || !slices.Equal(s.Flight, want.Flight) {
				t.Errorf("lists of one shot share memory")
			}
			spoil(s.Nodes, api.Place{Busy: true})
			spoil(s.Home, owned(9, 9))
			spoil(s.Flight, api.Letter{Kind: 9})
			checkSame(t, w, start(t, policy), 0)

			kept := w.Shot()
			for _, e := range probes(3, 4) {
				_, over := w.Step(e)
				spoil(over, api.Done{Node: 9})
			}
			if got := tidy(kept); !reflect.DeepEqual(got, want) {
				t.Errorf("what Shot told is %+v now", got)
			}
		}
	}
	w := made(t, config(api.PTokenB))
	play(t, w, store(0, 1, 7), deliver(2))
	first := play(t, w, deliver(2))
	_, second := w.Step(load(0, 1))
	if len(first) != 1 || first[0].Step != 3 || len(second) != 1 || second[0].Step != 4 || second[0].Number != 2 {
		t.Errorf("%+v, %+v are over", first, second)
	}
}

// P17.2, P17.4: by each policy all operations are over in the end, where all letters come, and nobody asks anew; then all tokens are at rest.
func TestAllIsOverInTheEnd(t *testing.T) {
	for _, r := range chances(20, 300) {
		r.c.Cap = 65536
		w := made(t, r.c)
		issued, over := 0, 0
		for step := 0; ; step++ {
			s := w.Shot()
			waits := slices.ContainsFunc(s.Nodes, func(p api.Place) bool { return p.Busy })
			if step >= 300 && !waits && len(s.Flight) == 0 {
				break
			}
			if step > 100000 {
				t.Fatalf("with %+v somebody waits for ever: %+v", r.c, s)
			}
			e := r.entry(len(s.Flight))
			if step >= 300 && e.Kind == api.EOp {
				e = tick
			}
			got, done := w.Step(e)
			if e.Kind == api.EOp && got == api.RDone {
				issued++
			}
			over += len(done)
		}
		if issued != over {
			t.Fatalf("%d operations are over, of %d", over, issued)
		}
		for _, p := range w.Shot().Nodes {
			if len(p.Actives) > 0 {
				t.Fatalf("a node knows of %+v yet", p.Actives)
			}
		}
	}
}

// P17.2: what is done hangs on the entries alone: the same script brings the same, each time.
func TestSameScriptSameWorld(t *testing.T) {
	for _, r := range chances(21, 60) {
		w := made(t, r.c)
		var script []api.Entry
		var results []int
		for range 300 {
			e := r.entry(len(w.Shot().Flight))
			got, _ := w.Step(e)
			script, results = append(script, e), append(results, got)
		}
		again := made(t, r.c)
		for at, e := range script {
			if got, _ := again.Step(e); got != results[at] {
				t.Fatalf("of %+v comes %d, not %d", e, got, results[at])
			}
		}
		checkSame(t, again, w, 0)
	}
}
