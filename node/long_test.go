package node

import (
	"math/rand"
	"slices"
	"testing"

	"jeton/advice"
	"jeton/api"
	"jeton/arbiter"
	"jeton/bundle"
	"jeton/letter"
	"jeton/memory"
	"jeton/timer"
)

// plain is what the promises say in so many words: all that came about requests, and all that was sent home about them, in order, beside what is there.
type plain struct {
	c          api.Config
	id         int
	held       map[int]api.Bundle
	used       []int // the blocks that have a line: that which was used longest ago stands first
	waits      bool
	op         api.Op
	over       int
	ticked     int // since the operation was issued
	came, sent []api.Letter
}

func (p *plain) copy() *plain {
	c := *p
	c.held = map[int]api.Bundle{}
	for block, b := range p.held {
		c.held[block] = b
	}
	c.used, c.came, c.sent = slices.Clone(p.used), slices.Clone(p.came), slices.Clone(p.sent)
	return &c
}

// active is the request with the greatest number that came, the first of several, unless that is over.
func (p *plain) active(block int) (api.Active, bool) {
	var a api.Active
	ended := 0
	for _, l := range p.came {
		if l.Block != block {
			continue
		}
		if l.Kind == api.LDeactivate {
			ended = max(ended, l.Seq)
		} else if l.Seq > a.Seq {
			a = api.Active{Block: block, Node: l.Who, Seq: l.Seq}
		}
	}
	if a.Seq <= ended {
		return api.Active{}, false
	}
	return a, true
}

func (p *plain) own(block int) bool {
	a, ok := p.active(block)
	return ok && a.Node == p.id
}

func (p *plain) actives() []api.Active {
	var all []api.Active
	for block := range p.c.Blocks {
		if a, ok := p.active(block); ok {
			all = append(all, a)
		}
	}
	return all
}

// tellHome sends a letter home, and knows it.
func (p *plain) tellHome(kind, block, seq int) []api.Letter {
	l := api.Letter{Kind: kind, From: p.id, To: p.c.Nodes, Block: block, Seq: seq}
	p.sent = append(p.sent, l)
	return []api.Letter{l}
}

// end tells the end of its own request, if it sent no LDone of it.
func (p *plain) end(block int) []api.Letter {
	a, _ := p.active(block)
	done := api.Letter{Kind: api.LDone, From: p.id, To: p.c.Nodes, Block: block, Seq: a.Seq}
	if !p.own(block) || slices.Contains(p.sent, done) {
		return nil
	}
	return p.tellHome(api.LDone, block, a.Seq)
}

// hasAsked tells whether the last that was sent home of a block, but for what is acknowledged, is an LPersist.
func (p *plain) hasAsked(block int) bool {
	last := 0
	for _, l := range p.sent {
		if l.Block == block && l.Kind != api.LAck {
			last = l.Kind
		}
	}
	return last == api.LPersist
}

func (p *plain) use(block int) {
	p.leave(block)
	p.used = append(p.used, block)
}

func (p *plain) leave(block int) {
	p.used = slices.DeleteFunc(p.used, func(other int) bool { return other == block })
}

// put has tokens come to a line; what must go for them.
func (p *plain) put(block int, b api.Bundle) (int, api.Bundle) {
	old, has := p.held[block]
	if !has {
		var set []int
		for _, other := range p.used {
			if other%p.c.Sets == block%p.c.Sets {
				set = append(set, other)
			}
		}
		if len(set) == p.c.Ways {
			may := slices.DeleteFunc(set, func(other int) bool { return p.waits && other == p.op.Block })
			if len(may) == 0 {
				return block, b
			}
			gone := p.held[may[0]]
			delete(p.held, may[0])
			p.leave(may[0])
			p.held[block] = b
			p.use(block)
			return may[0], gone
		}
	}
	p.held[block] = bundle.Join(old, b)
	p.use(block)
	return 0, api.Bundle{}
}

func (p *plain) send(to, block int, b api.Bundle) []api.Letter {
	if b == (api.Bundle{}) {
		return nil
	}
	return []api.Letter{{Kind: api.LTokens, From: p.id, To: to, Block: block, Tokens: b}}
}

// give has tokens go.
func (p *plain) give(to, block, count int, owner, data bool) []api.Letter {
	gives, rest := bundle.Split(p.held[block], count, owner, data)
	if rest == (api.Bundle{}) {
		delete(p.held, block)
		p.leave(block)
	} else {
		p.held[block] = rest
	}
	return p.send(to, block, gives)
}

func (p *plain) settle(o Out) Out {
	h := p.held[p.op.Block]
	if !p.waits || !h.Has || p.op.Write && h.Count != p.c.Tokens {
		return o
	}
	if p.op.Write {
		h.Data = p.op.Value
		p.held[p.op.Block] = h
	}
	p.use(p.op.Block)
	p.over++
	o.Done = append(o.Done, api.Done{Node: p.id, Number: p.over, Op: p.op, Value: h.Data})
	o.Letters = append(o.Letters, p.end(p.op.Block)...)
	p.waits, p.op = false, api.Op{}
	return o
}

func (p *plain) asks(d advice.Draws) []api.Letter {
	var all []api.Letter
	for _, to := range advice.Targets(p.c, p.id, d) {
		all = append(all, api.Letter{Kind: api.LAsk, From: p.id, To: to, Block: p.op.Block, Write: p.op.Write})
	}
	return all
}

func (p *plain) issue(op api.Op, d advice.Draws) (Out, bool) {
	if p.waits || op.Block < 0 || op.Block >= p.c.Blocks {
		return Out{}, false
	}
	p.waits, p.op, p.ticked = true, op, 0
	o := p.settle(Out{})
	if p.waits {
		o.Letters = append(o.Letters, p.asks(d)...)
	}
	return o, true
}

func (p *plain) take(l api.Letter, d advice.Draws) Out {
	if letter.Check(p.c, l) != api.OK || l.To != p.id {
		return Out{}
	}
	switch a, ok := p.active(l.Block); l.Kind {
	case api.LTokens:
		if ok && a.Node != p.id {
			return Out{Letters: p.send(a.Node, l.Block, l.Tokens)}
		}
		block, gone := p.put(l.Block, l.Tokens)
		return p.settle(Out{Letters: p.send(p.c.Nodes, block, gone)})
	case api.LAsk:
		if p.waits && p.op.Block == l.Block && p.own(l.Block) {
			return Out{}
		}
		count, owner, data := advice.Reply(p.c.Policy, p.held[l.Block], l.Write, d)
		return Out{Letters: p.give(l.From, l.Block, count, owner, data)}
	case api.LDeactivate:
		p.came = append(p.came, l)
		return Out{Letters: p.tellHome(api.LAck, l.Block, l.Seq)}
	}
	before, _ := p.active(l.Block)
	p.came = append(p.came, l)
	now, _ := p.active(l.Block)
	switch {
	case now == before:
		return Out{}
	case l.Who != p.id:
		return Out{Letters: p.give(l.Who, l.Block, p.held[l.Block].Count, true, true)}
	case p.waits && p.op.Block == l.Block:
		return Out{}
	}
	return Out{Letters: p.end(l.Block)}
}

func (p *plain) tick(d advice.Draws) Out {
	if !p.waits {
		return Out{}
	}
	p.ticked++
	x, do := timer.Start(p.c.Wait), 0
	for range p.ticked {
		x, do = timer.Tick(x, p.c.Wait, p.c.Tries)
	}
	if do == 1 {
		return Out{Letters: p.asks(d)}
	}
	if do == 2 && !p.hasAsked(p.op.Block) {
		return Out{Letters: p.tellHome(api.LPersist, p.op.Block, 0)}
	}
	return Out{}
}

func (p *plain) place() api.Place {
	var all []api.Line
	for block := range p.c.Blocks {
		if b, ok := p.held[block]; ok {
			all = append(all, api.Line{Block: block, Tokens: b})
		}
	}
	return api.Place{Lines: all, Busy: p.waits, Op: p.op, Actives: p.actives()}
}

// Kinds of calls.
const (
	callIssue = iota
	callTake
	callTick
	callCopy
)

// call is one of them; what it is handed, if it is that.
type call struct {
	kind int
	op   api.Op
	l    api.Letter
	d    advice.Draws
}

// by has a call done, and answers what came of it, and the one that goes on.
func (x call) by(n *Node) (Out, bool, *Node) {
	switch x.kind {
	case callIssue:
		o, ok := n.Issue(x.op, x.d)
		return o, ok, n
	case callTake:
		return n.Take(x.l, x.d), true, n
	case callTick:
		return n.Tick(x.d), true, n
	}
	return Out{}, true, n.Copy()
}

func (x call) byPlain(p *plain) (Out, bool, *plain) {
	switch x.kind {
	case callIssue:
		o, ok := p.issue(x.op, x.d)
		return o, ok, p
	case callTake:
		return p.take(x.l, x.d), true, p
	case callTick:
		return p.tick(x.d), true, p
	}
	return Out{}, true, p.copy()
}

// both has a call done by a Node and by a plain one, tells where they differ, and answers what goes on.
func (x call) both(t *testing.T, n *Node, p *plain) (*Node, *plain, Out) {
	t.Helper()
	got, gotOk, n := x.by(n)
	want, wantOk, p := x.byPlain(p)
	if gotOk != wantOk || !slices.Equal(got.Letters, want.Letters) || !slices.Equal(got.Done, want.Done) {
		t.Fatalf("of %+v comes %+v, %t, not %+v, %t, with %+v", x, got, gotOk, want, wantOk, p)
	}
	if place := p.place(); !same(n.Place(), place) {
		t.Fatalf("behind %+v there is %+v, not %+v", x, n.Place(), place)
	}
	return n, p, got
}

func newPlain(c api.Config, id int) *plain {
	return &plain{c: c, id: id, held: map[int]api.Bundle{}}
}

// P15.1 to P15.4: all orders of a few calls, from each point of them on a copy, are as the promises say.
func TestAllOrders(t *testing.T) {
	c := config(api.PTokenB)
	c.Blocks, c.Tokens, c.Ways = 2, 3, 1
	calls := []call{
		{kind: callIssue, op: load(0)}, {kind: callIssue, op: store(1, 9)},
		{kind: callTake, l: tokensFrom(low, 0, valued(1, 7))}, {kind: callTake, l: tokensFrom(home, 1, owned(3, 8))},
		{kind: callTake, l: askFrom(high, 1, true)},
		{kind: callTake, l: activate(1, 1, self)}, {kind: callTake, l: activate(1, 2, high)},
		{kind: callTake, l: activate(0, 1, self)}, {kind: callTake, l: deactivate(1, 1)},
		{kind: callTick},
	}
	var follow func(n *Node, p *plain, left int)
	follow = func(n *Node, p *plain, left int) {
		if left == 0 {
			return
		}
		for _, x := range calls {
			n, p, _ := x.both(t, n.Copy(), p.copy())
			follow(n, p, left-1)
		}
	}
	follow(made(t, c, self), newPlain(c, self), 5)
}

// chance draws calls, mostly such as may be.
type chance struct {
	*rand.Rand
	c  api.Config
	id int
}

func (r chance) draws() advice.Draws {
	switch r.Intn(3) {
	case 0:
		return advice.Draws{r.Intn(r.c.Tokens + 1), r.Intn(4)}
	case 1:
		return advice.Draws{int(r.Uint64()), int(r.Uint64()), int(r.Uint64())}
	}
	return advice.Draws{}
}

// bundle is some tokens, mostly at most as many as are missing to all where there are so many.
func (r chance) bundle(there int) api.Bundle {
	most := max(1, r.c.Tokens-there)
	if r.Intn(8) == 0 {
		most = r.c.Tokens
	}
	count := 1 + r.Intn(most)
	if r.Intn(2) == 0 {
		count = most
	}
	switch kind := r.Intn(4); {
	case kind == 0 || count == most && kind < 3:
		return owned(count, r.Int63n(9))
	case kind == 1:
		return valued(count, r.Int63n(9))
	}
	return some(count)
}

// letter is to the node, but for few; requests' numbers rise with the calls ahead of it, and much is about what is waited for.
func (r chance) letter(ahead int, n *Node) api.Letter {
	l := api.Letter{From: r.Intn(r.c.Nodes + 1), To: r.id, Block: r.Intn(r.c.Blocks)}
	place := n.Place()
	if place.Busy && r.Intn(2) == 0 {
		l.Block = place.Op.Block
	}
	kind := r.Intn(16)
	if kind < 6 && counts(place)[l.Block] >= r.c.Tokens && r.Intn(4) > 0 {
		kind = 8 // so many are of no use: another one has them
	}
	switch kind {
	case 0, 1, 2, 3, 4, 5:
		l.Kind, l.Tokens = api.LTokens, r.bundle(counts(place)[l.Block])
	case 6, 7:
		l.Kind, l.Write = api.LAsk, r.Intn(2) == 0
	case 8, 9:
		l.Kind, l.From, l.Seq, l.Who = api.LActivate, r.c.Nodes, 1+ahead/6+r.Intn(4), r.Intn(r.c.Nodes)
		if r.Intn(2) == 0 {
			l.Who = r.id
		}
	case 10, 11, 12:
		l.Kind, l.From, l.Seq = api.LDeactivate, r.c.Nodes, 1+ahead/6+r.Intn(5)
	default:
		l.Kind, l.Seq, l.Write = r.Intn(9), r.Intn(3), r.Intn(4) == 0
		l.To = r.Intn(r.c.Nodes + 1)
	}
	return l
}

func (r chance) call(ahead int, n *Node) call {
	x := call{kind: callTake, l: r.letter(ahead, n), d: r.draws()}
	switch r.Intn(10) {
	case 0, 1, 2:
		x.kind, x.op = callIssue, api.Op{Block: r.Intn(r.c.Blocks+2) - 1, Write: r.Intn(2) == 0, Value: r.Int63n(99)}
	case 3:
		x.kind = callTick
	case 4:
		x.kind = r.Intn(2) + callTick
	}
	return x
}

// chances are so many configurations, each with what draws calls for a node of it.
func chances(seed int64, count int) []chance {
	r := rand.New(rand.NewSource(seed))
	var all []chance
	for range count {
		c := api.Config{
			Nodes: 1 + r.Intn(4), Blocks: 1 + r.Intn(5), Tokens: 4 + r.Intn(3), Sets: 1 + r.Intn(2), Ways: 1 + r.Intn(3),
			Cap: 1, Wait: 1 + r.Intn(3), Tries: r.Intn(3), Policy: r.Intn(3),
		}
		all = append(all, chance{rand.New(rand.NewSource(r.Int63())), c, r.Intn(c.Nodes)})
	}
	return all
}

// counts are how many tokens there are, by blocks.
func counts(p api.Place) map[int]int {
	all := map[int]int{}
	for _, l := range p.Lines {
		all[l.Block] = l.Tokens.Count
	}
	return all
}

// tally is what came to a node, less what went, and what it told.
type tally struct {
	tokens map[int]int
	told   map[api.Letter]int
}

// account takes a call's letters into it, and tells where they break a promise of the consequences.
func (y tally) account(t *testing.T, r chance, x call, kept bool, o Out) {
	t.Helper()
	good := x.kind == callTake && x.l.To == r.id && letter.Check(r.c, x.l) == api.OK
	if good && x.l.Kind == api.LTokens {
		y.tokens[x.l.Block] += x.l.Tokens.Count
	}
	acks := 0
	for _, l := range o.Letters {
		if l.From != r.id {
			t.Fatalf("it sends %+v, and is %d", l, r.id)
		}
		switch l.Kind {
		case api.LTokens:
			if kept && l.Block == x.l.Block {
				t.Fatalf("it gives %+v while its own request is active, and it waits", l)
			}
			if y.tokens[l.Block] -= l.Tokens.Count; y.tokens[l.Block] < 0 || l.Tokens.Count < 1 {
				t.Fatalf("it gives %+v, which it hasn't", l)
			}
		case api.LDone:
			if y.told[l]++; y.told[l] > 1 {
				t.Fatalf("it tells %+v again", l)
			}
		case api.LAck:
			acks++
			if l.Block != x.l.Block || l.Seq != x.l.Seq {
				t.Fatalf("of %+v it acknowledges %+v", x.l, l)
			}
		}
	}
	if good && x.l.Kind == api.LDeactivate && acks != 1 || acks > 1 {
		t.Fatalf("of %+v there are %d acknowledgements", x.l, acks)
	}
}

// keeps tells whether it waits for an operation on the block of the letter that comes, its own request of that being active, and active behind that letter too.
func keeps(n *Node, r chance, x call) bool {
	place := n.Place()
	if x.kind != callTake || !place.Busy || place.Op.Block != x.l.Block || x.l.Kind == api.LActivate || x.l.Kind == api.LDeactivate {
		return false
	}
	return slices.ContainsFunc(place.Actives, func(a api.Active) bool { return a.Block == x.l.Block && a.Node == r.id })
}

// P15.2 to P15.4: long orders of any calls are as the promises say, in all that is answered, and each consequence holds: of each block the tokens that came, less those that went, are there.
func TestLongOnes(t *testing.T) {
	over := 0
	for _, r := range chances(15, 400) {
		n, p := made(t, r.c, r.id), newPlain(r.c, r.id)
		y := tally{map[int]int{}, map[api.Letter]int{}}
		for ahead := range 300 {
			x := r.call(ahead, n)
			kept := keeps(n, r, x)
			var o Out
			n, p, o = x.both(t, n, p)
			y.account(t, r, x, kept, o)
			over += len(o.Done)
			there := counts(n.Place())
			for block := range r.c.Blocks {
				if there[block] != y.tokens[block] {
					t.Fatalf("of block %d there are %d tokens, not %d", block, there[block], y.tokens[block])
				}
			}
		}
	}
	if over < 3000 {
		t.Errorf("just %d operations were over: this tries nothing", over)
	}
}

// P15.1: neither a copy nor what it was made of knows what becomes of the other one: each answers all that comes as one does that was told the same, and of which there is no copy.
func TestCopyIsOnItsOwn(t *testing.T) {
	for at, r := range chances(16, 300) {
		first, twin := made(t, r.c, r.id), made(t, r.c, r.id)
		calls := r.Intn(120)
		for ahead := range calls {
			x := r.call(ahead, first)
			_, _, first = x.by(first)
			_, _, twin = x.by(twin)
		}
		copied := first.Copy()
		if !same(copied.Place(), first.Place()) {
			t.Fatalf("a copy has %+v, not %+v", copied.Place(), first.Place())
		}
		stays, goes := first, copied
		if at%2 == 0 {
			stays, goes = copied, first
		}
		for ahead := range 100 {
			r.call(calls+ahead, goes).by(goes)
		}
		for ahead := range 150 {
			x := r.call(calls+ahead, stays)
			if x.kind == callCopy {
				continue // neither of both is to be made anew
			}
			got, gotOk, _ := x.by(stays)
			want, wantOk, _ := x.by(twin)
			if gotOk != wantOk || !slices.Equal(got.Letters, want.Letters) || !slices.Equal(got.Done, want.Done) {
				t.Fatalf("of %+v comes %+v, %t, not %+v, %t", x, got, gotOk, want, wantOk)
			}
			if !same(stays.Place(), twin.Place()) {
				t.Fatalf("behind %+v there is %+v, not %+v", x, stays.Place(), twin.Place())
			}
			r.call(calls+ahead, goes).by(goes)
		}
	}
}

// town is nodes with a home as layer 16 says, and the letters between them, which come in any order.
type town struct {
	r       *rand.Rand
	c       api.Config
	nodes   []*Node
	memory  *memory.Memory
	arbiter *arbiter.Arbiter
	flight  []api.Letter
	value   map[int]int64 // of each block: that of the last store that was over
	over    int
}

func newTown(t *testing.T, r chance) *town {
	w := &town{r: r.Rand, c: r.c, value: map[int]int64{}}
	w.memory, w.arbiter = memory.New(r.c.Blocks, r.c.Tokens), arbiter.New(r.c.Nodes, r.c.Blocks)
	for id := range r.c.Nodes {
		w.nodes = append(w.nodes, made(t, r.c, id))
	}
	return w
}

// out has letters go on their way; what is over must be as of a register.
func (w *town) out(t *testing.T, o Out) {
	t.Helper()
	for _, l := range o.Letters {
		if e := letter.Check(w.c, l); e != api.OK {
			t.Fatalf("it sends %+v, which may not be: %d", l, e)
		}
	}
	w.flight = append(w.flight, o.Letters...)
	for _, d := range o.Done {
		w.over++
		if d.Op.Write {
			w.value[d.Op.Block] = d.Op.Value
		}
		if d.Value != w.value[d.Op.Block] {
			t.Fatalf("%+v, where the value is %d", d, w.value[d.Op.Block])
		}
	}
}

// begins has home make a request active.
func (w *town) begins(a api.Active, ok bool) {
	if !ok {
		return
	}
	w.flight = append(w.flight, letter.Spread(api.LActivate, w.c.Nodes, a.Block, a.Seq, a.Node, w.c.Nodes)...)
	w.fromHome(a.Node, a.Block, w.memory.Take(a.Block, w.c.Tokens, true, true))
}

func (w *town) fromHome(to, block int, b api.Bundle) {
	if b.Count > 0 {
		w.flight = append(w.flight, letter.Tokens(w.c.Nodes, to, block, b))
	}
}

func (w *town) atHome(l api.Letter, d advice.Draws) {
	switch l.Kind {
	case api.LTokens:
		if a, ok := w.arbiter.Current(l.Block); ok {
			w.fromHome(a.Node, l.Block, l.Tokens)
		} else {
			w.memory.Put(l.Block, l.Tokens)
		}
	case api.LAsk:
		count, owner, data := advice.Reply(w.c.Policy, w.memory.Get(l.Block), l.Write, d)
		w.fromHome(l.From, l.Block, w.memory.Take(l.Block, count, owner, data))
	case api.LPersist:
		w.begins(w.arbiter.Ask(l.Block, l.From))
	case api.LDone:
		if w.arbiter.Done(l.Block, l.Seq) {
			w.flight = append(w.flight, letter.Spread(api.LDeactivate, w.c.Nodes, l.Block, l.Seq, 0, w.c.Nodes)...)
		}
	case api.LAck:
		w.begins(w.arbiter.Ack(l.Block, l.Seq, l.From))
	}
}

// step has one letter come, or be lost if it may, or a tick be at each node.
func (w *town) step(t *testing.T, d advice.Draws) {
	t.Helper()
	if len(w.flight) == 0 || w.r.Intn(8) == 0 {
		for _, n := range w.nodes {
			w.out(t, n.Tick(d))
		}
		return
	}
	at := w.r.Intn(len(w.flight))
	l := w.flight[at]
	w.flight = slices.Delete(w.flight, at, at+1)
	switch {
	case letter.Drops(l) && w.r.Intn(2) == 0:
	case l.To == w.c.Nodes:
		w.atHome(l, d)
	default:
		w.out(t, w.nodes[l.To].Take(l, d))
	}
}

// checkTokens tells where a block hasn't all its tokens, just one of them the owner's, with the value.
func (w *town) checkTokens(t *testing.T) {
	t.Helper()
	for block := range w.c.Blocks {
		all := []api.Bundle{w.memory.Get(block)}
		for _, n := range w.nodes {
			for _, l := range n.Place().Lines {
				if l.Block == block {
					all = append(all, l.Tokens)
				}
			}
		}
		for _, l := range w.flight {
			if l.Kind == api.LTokens && l.Block == block {
				all = append(all, l.Tokens)
			}
		}
		count, owners := 0, 0
		for _, b := range all {
			count += b.Count
			if b.Owner {
				owners++
			}
			if b.Has && b.Data != w.value[block] {
				t.Fatalf("block %d is %d at %+v", block, w.value[block], b)
			}
		}
		if count != w.c.Tokens || owners != 1 {
			t.Fatalf("of block %d there are %d tokens, %d of them the owner's: %+v", block, count, owners, all)
		}
	}
}

func (w *town) busy() bool {
	return slices.ContainsFunc(w.nodes, func(n *Node) bool { return n.Place().Busy })
}

// P15.3, P15.4: nodes with a home keep all tokens, each block is a register, and each operation is over, whatever the policy, though asks are lost and letters come in any order.
func TestNodesTogether(t *testing.T) {
	for _, r := range chances(17, 150) {
		w, issued := newTown(t, r), 0
		for step := 0; step < 600 || w.busy(); step++ {
			if step > 100000 {
				t.Fatalf("with %+v somebody waits for ever: %+v", w.c, w.flight)
			}
			if step < 600 && w.r.Intn(4) == 0 {
				op := api.Op{Block: w.r.Intn(w.c.Blocks), Write: w.r.Intn(2) == 0, Value: w.r.Int63n(1000)}
				o, ok := w.nodes[w.r.Intn(w.c.Nodes)].Issue(op, r.draws())
				if ok {
					issued++
				}
				w.out(t, o)
			}
			w.step(t, r.draws())
			w.checkTokens(t)
		}
		if w.over != issued {
			t.Fatalf("%d operations are over, of %d", w.over, issued)
		}
	}
}
