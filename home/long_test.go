package home

import (
	"math/rand"
	"slices"
	"testing"

	"jeton/advice"
	"jeton/api"
	"jeton/bundle"
	"jeton/letter"
	"jeton/node"
)

// plain is what the promises say in so many words: all that came and was sent about requests, beside the tokens.
type plain struct {
	c     api.Config
	held  []api.Bundle
	asked [][]int      // by blocks: the nodes of all that ever asked, in order
	begun []int        // by blocks: how many of these became active
	ended []api.Letter // an LDone of each request that was over, and the acknowledgements of these
}

func newPlain(c api.Config) *plain {
	p := &plain{c: c, asked: make([][]int, c.Blocks), begun: make([]int, c.Blocks)}
	for range c.Blocks {
		p.held = append(p.held, owned(c.Tokens, 0))
	}
	return p
}

func (p *plain) copy() *plain {
	c := *p
	c.held, c.begun, c.ended = slices.Clone(p.held), slices.Clone(p.begun), slices.Clone(p.ended)
	c.asked = nil
	for _, asked := range p.asked {
		c.asked = append(c.asked, slices.Clone(asked))
	}
	return &c
}

// says tells whether a letter of the kind is known, from a node (or from any, if that is below 0).
func (p *plain) says(kind, block, seq, from int) bool {
	return slices.ContainsFunc(p.ended, func(l api.Letter) bool {
		return l.Kind == kind && l.Block == block && l.Seq == seq && (from < 0 || l.From == from)
	})
}

// current is the request that became active last, if its end isn't told.
func (p *plain) current(block int) api.Active {
	seq := p.begun[block]
	if seq == 0 || p.says(api.LDone, block, seq, -1) {
		return noRequest
	}
	return request(block, p.asked[block][seq-1], seq)
}

// rests tells whether all know that the last one is over.
func (p *plain) rests(block int) bool {
	seq := p.begun[block]
	if seq == 0 {
		return true
	}
	for from := range p.c.Nodes {
		if !p.says(api.LAck, block, seq, from) {
			return false
		}
	}
	return p.says(api.LDone, block, seq, -1)
}

// begin has the next one become active, if it may; what is sent.
func (p *plain) begin(block int) []api.Letter {
	if !p.rests(block) || p.begun[block] == len(p.asked[block]) {
		return nil
	}
	p.begun[block]++
	a := p.current(block)
	all := p.spread(api.Letter{Kind: api.LActivate, Block: block, Seq: a.Seq, Who: a.Node})
	b := p.held[block]
	p.held[block] = none
	return append(all, p.give(a.Node, block, b)...)
}

// spread has one like it go to each node.
func (p *plain) spread(l api.Letter) []api.Letter {
	var all []api.Letter
	for to := 0; to < p.c.Nodes; to++ {
		l.From, l.To = p.c.Nodes, to
		all = append(all, l)
	}
	return all
}

func (p *plain) give(to, block int, b api.Bundle) []api.Letter {
	if b == none {
		return nil
	}
	return []api.Letter{{Kind: api.LTokens, From: p.c.Nodes, To: to, Block: block, Tokens: b}}
}

func (p *plain) take(l api.Letter, d advice.Draws) []api.Letter {
	if letter.Check(p.c, l) != api.OK || l.To != p.c.Nodes {
		return nil
	}
	a := p.current(l.Block)
	is := a != noRequest
	switch {
	case l.Kind == api.LTokens && is:
		return p.give(a.Node, l.Block, l.Tokens)
	case l.Kind == api.LTokens:
		p.held[l.Block] = bundle.Join(p.held[l.Block], l.Tokens)
	case l.Kind == api.LAsk:
		count, owner, data := advice.Reply(p.c.Policy, p.held[l.Block], l.Write, d)
		b, rest := bundle.Split(p.held[l.Block], count, owner, data)
		p.held[l.Block] = rest
		return p.give(l.From, l.Block, b)
	case l.Kind == api.LPersist:
		p.asked[l.Block] = append(p.asked[l.Block], l.From)
		return p.begin(l.Block)
	case l.Kind == api.LDone && is && a.Seq == l.Seq:
		p.ended = append(p.ended, l)
		return p.spread(api.Letter{Kind: api.LDeactivate, Block: l.Block, Seq: l.Seq})
	case l.Kind == api.LAck && !is && l.Seq == p.begun[l.Block] && !p.rests(l.Block):
		p.ended = append(p.ended, l)
		return p.begin(l.Block)
	}
	return nil
}

// looks is what there is to be seen of it.
func (p *plain) looks() looks {
	x := looks{tokens: slices.Clone(p.held)}
	for block := range p.c.Blocks {
		x.current = append(x.current, p.current(block))
		x.waiting = append(x.waiting, append([]int{}, p.asked[block][p.begun[block]:]...))
	}
	return x
}

// both has a letter come to a Home and to a plain one, tells where they differ, and answers what is sent.
func both(t *testing.T, h *Home, p *plain, l api.Letter, d advice.Draws) []api.Letter {
	t.Helper()
	got, want := h.Take(l, d), p.take(l, d)
	if !slices.Equal(got, want) {
		t.Fatalf("of %+v by %v comes %+v, not %+v, with %+v", l, d, got, want, p)
	}
	checkLooks(t, h, p.looks())
	return got
}

// P16.1 to P16.3: all orders of a few letters, from each point of them on a copy, are as the promises say.
func TestAllOrders(t *testing.T) {
	c := config(api.PTokenB)
	c.Nodes, c.Blocks, c.Tokens = 2, 2, 3
	all := []api.Letter{
		{Kind: api.LTokens, From: 0, Tokens: owned(2, 7)}, {Kind: api.LAsk, From: 1, Write: true},
		{Kind: api.LPersist, From: 0}, {Kind: api.LPersist, From: 1}, {Kind: api.LPersist, From: 0, Block: 1},
		{Kind: api.LDone, From: 0, Seq: 1}, {Kind: api.LDone, From: 1, Seq: 2},
		{Kind: api.LAck, From: 0, Seq: 1}, {Kind: api.LAck, From: 1, Seq: 1},
	}
	for at := range all {
		all[at].To = 2
	}
	var follow func(h *Home, p *plain, left int)
	follow = func(h *Home, p *plain, left int) {
		if left == 0 {
			return
		}
		for _, l := range all {
			h, p := h.Copy(), p.copy()
			both(t, h, p, l, noDraws)
			follow(h, p, left-1)
		}
	}
	follow(made(t, c), newPlain(c), 5)
}

// chance draws letters that come home, mostly such as may be.
type chance struct {
	*rand.Rand
	c api.Config
}

// chances are so many configurations, each with what draws letters.
func chances(seed int64, count int) []chance {
	r := rand.New(rand.NewSource(seed))
	var all []chance
	for range count {
		c := api.Config{
			Nodes: 1 + r.Intn(4), Blocks: 1 + r.Intn(4), Tokens: 4 + r.Intn(4), Sets: 1 + r.Intn(2), Ways: 1 + r.Intn(3),
			Cap: 1, Wait: 1 + r.Intn(3), Tries: r.Intn(3), Policy: r.Intn(3),
		}
		all = append(all, chance{rand.New(rand.NewSource(r.Int63())), c})
	}
	return all
}

func (r chance) draws() advice.Draws {
	switch r.Intn(3) {
	case 0:
		return advice.Draws{r.Intn(r.c.Tokens + 1), r.Intn(4)}
	case 1:
		return advice.Draws{int(r.Uint64()), int(r.Uint64()), int(r.Uint64())}
	}
	return advice.Draws{}
}

func (r chance) bundle() api.Bundle {
	switch count := 1 + r.Intn(r.c.Tokens); r.Intn(3) {
	case 0:
		return owned(count, r.Int63n(9))
	case 1:
		return valued(count, r.Int63n(9))
	default:
		return some(count)
	}
}

// letter is to home, but for few; most ends are of a number near to that of the block's last request.
func (r chance) letter(p *plain) api.Letter {
	l := api.Letter{From: r.Intn(r.c.Nodes), To: r.c.Nodes, Block: r.Intn(r.c.Blocks)}
	near := p.begun[l.Block] + []int{0, 0, 0, 0, -1, 1}[r.Intn(6)]
	switch kind := r.Intn(16); kind {
	case 0, 1, 2:
		l.Kind, l.Tokens = api.LTokens, r.bundle()
	case 3, 4:
		l.Kind, l.Write = api.LAsk, r.Intn(2) == 0
	case 5, 6:
		l.Kind = api.LPersist
	case 7, 8, 9:
		l.Kind, l.Seq = api.LDone, near
	case 10, 11, 12, 13, 14:
		l.Kind, l.Seq = api.LAck, near
	default:
		l.Kind, l.Seq, l.Write = r.Intn(9), r.Intn(3), r.Intn(4) == 0
		l.From, l.To = r.Intn(r.c.Nodes+2)-1, r.Intn(r.c.Nodes+1)
		l.Block += r.Intn(2) * r.Intn(3)
	}
	return l
}

// tally is what the consequences speak of: of each block the tokens, who asked, and who became active.
type tally struct {
	tokens       map[int]int
	asked, begun map[int][]int
}

func newTally(c api.Config) tally {
	y := tally{map[int]int{}, map[int][]int{}, map[int][]int{}}
	for block := range c.Blocks {
		y.tokens[block] = c.Tokens
	}
	return y
}

// account takes a letter, and what is sent with it, into it, and tells where they break a promise of the consequences.
func (y tally) account(t *testing.T, c api.Config, before api.Active, l api.Letter, sent []api.Letter) {
	t.Helper()
	good := l.To == c.Nodes && letter.Check(c, l) == api.OK
	if good && l.Kind == api.LTokens {
		y.tokens[l.Block] += l.Tokens.Count
		if before != noRequest && (len(sent) != 1 || sent[0].To != before.Node || sent[0].Tokens != l.Tokens) {
			t.Fatalf("of %+v goes on %+v, while %+v is active", l, sent, before)
		}
	}
	if good && l.Kind == api.LPersist {
		y.asked[l.Block] = append(y.asked[l.Block], l.From)
	}
	for _, s := range sent {
		if s.From != c.Nodes || s.Block != l.Block || !good {
			t.Fatalf("of %+v home sends %+v", l, s)
		}
		switch s.Kind {
		case api.LTokens:
			if y.tokens[s.Block] -= s.Tokens.Count; y.tokens[s.Block] < 0 || s.Tokens.Count < 1 {
				t.Fatalf("home gives %+v, which it hasn't", s)
			}
		case api.LActivate:
			if s.To == 0 {
				y.begun[s.Block] = append(y.begun[s.Block], s.Who)
			}
			if s.Seq != len(y.begun[s.Block]) || before != noRequest {
				t.Fatalf("%+v goes behind %v, while %+v is active", s, y.begun[s.Block], before)
			}
		}
	}
}

// check tells where what is at home, or who waits, isn't what is left.
func (y tally) check(t *testing.T, h *Home) {
	t.Helper()
	for block, b := range h.All() {
		if b.Count != y.tokens[block] {
			t.Fatalf("of block %d there are %d tokens at home, not %d", block, b.Count, y.tokens[block])
		}
		if all := append(slices.Clone(y.begun[block]), h.Waiting(block)...); !slices.Equal(all, y.asked[block]) {
			t.Fatalf("of block %d %v asked, not %v", block, y.asked[block], all)
		}
	}
}

// P16.1 to P16.3: long orders of any letters are as the promises say, and each consequence holds: of each block there are at home the tokens at first and that came, less those that went; what comes goes on to who is active; they become active in the order in which they asked.
func TestLongOnes(t *testing.T) {
	begun := 0
	for _, r := range chances(16, 300) {
		h, p, y := made(t, r.c), newPlain(r.c), newTally(r.c)
		for range 300 {
			l, before := r.letter(p), noRequest
			if l.Block >= 0 && l.Block < r.c.Blocks {
				before = p.current(l.Block)
			}
			y.account(t, r.c, before, l, both(t, h, p, l, r.draws()))
			y.check(t, h)
			if r.Intn(20) == 0 {
				h = h.Copy()
			}
		}
		for _, nodes := range y.begun {
			begun += len(nodes)
		}
	}
	if begun < 3000 {
		t.Errorf("just %d requests became active: this tries nothing", begun)
	}
}

// P16.1: neither a copy nor what it was made of knows what becomes of the other one: each answers all that comes as one does that was told the same, and of which there is no copy.
func TestCopyIsOnItsOwn(t *testing.T) {
	for at, r := range chances(17, 200) {
		first, twin, p := made(t, r.c), made(t, r.c), newPlain(r.c)
		for range r.Intn(120) {
			l, d := r.letter(p), r.draws()
			first.Take(l, d)
			twin.Take(l, d)
			p.take(l, d)
		}
		copied, q := first.Copy(), p.copy()
		checkLooks(t, copied, look(first, r.c.Blocks))
		stays, goes := first, copied
		if at%2 == 0 {
			stays, goes = copied, first
		}
		leads := func() {
			l, d := r.letter(q), r.draws()
			goes.Take(l, d)
			q.take(l, d)
		}
		for range r.Intn(60) {
			leads()
		}
		for range 150 {
			l, d := r.letter(p), r.draws()
			p.take(l, d)
			if got, want := stays.Take(l, d), twin.Take(l, d); !slices.Equal(got, want) {
				t.Fatalf("of %+v comes %+v, not %+v", l, got, want)
			}
			checkLooks(t, stays, look(twin, r.c.Blocks))
			leads()
		}
	}
}

// P16.3: if each that is active is ended, and its end acknowledged by all, each that asked becomes active, in the order in which they asked; all tokens go from one to the next.
func TestEachThatAskedBecomesActive(t *testing.T) {
	random := rand.New(rand.NewSource(18))
	for _, nodes := range []int{1, 2, 7, 64} {
		c := config(api.PTokenB)
		c.Nodes, c.Tokens = nodes, 64
		h := made(t, c)
		var asked, begun []int
		sees := func(sent []api.Letter) {
			if len(sent) == 0 {
				return
			}
			begun = append(begun, sent[0].Who)
			if len(sent) != nodes+1 || sent[nodes].Tokens.Count != 64 {
				t.Fatalf("the tokens don't go: %+v", sent)
			}
		}
		for range 40 {
			asked = append(asked, random.Intn(nodes))
			sees(h.Take(api.Letter{Kind: api.LPersist, From: asked[len(asked)-1], To: nodes, Block: 1}, noDraws))
		}
		for seq := 1; seq <= len(asked); seq++ {
			who := asked[seq-1]
			if len(begun) != seq {
				t.Fatalf("%d of %d became active", len(begun), seq)
			}
			checkRequests(t, h, 1, request(1, who, seq), asked[seq:]...)
			h.Take(api.Letter{Kind: api.LDone, From: who, To: nodes, Block: 1, Seq: seq}, noDraws)
			back := api.Letter{Kind: api.LTokens, From: who, To: nodes, Block: 1, Tokens: owned(64, int64(seq))}
			checkTake(t, h, back)
			for _, from := range random.Perm(nodes) {
				sees(h.Take(api.Letter{Kind: api.LAck, From: from, To: nodes, Block: 1, Seq: seq}, noDraws))
			}
		}
		if !slices.Equal(begun, asked) {
			t.Fatalf("%v asked, %v became active", asked, begun)
		}
		checkRequests(t, h, 1, noRequest)
	}
}

// P16.3: so it is when very many wait, and in time.
func TestVeryManyWait(t *testing.T) {
	const many = 1 << 18
	h := made(t, api.Config{Nodes: 2, Blocks: 1, Tokens: 2, Sets: 1, Ways: 1, Cap: 1, Wait: 1})
	for at := range many {
		if sent := h.Take(api.Letter{Kind: api.LPersist, From: at * at % 3 % 2, To: 2}, noDraws); len(sent) > 0 != (at == 0) {
			t.Fatalf("of ask %d %+v goes", at, sent)
		}
	}
	for at := range many - 1 {
		h.Take(api.Letter{Kind: api.LDone, From: 0, To: 2, Seq: at + 1}, noDraws)
		h.Take(api.Letter{Kind: api.LAck, From: 0, To: 2, Seq: at + 1}, noDraws)
		sent := h.Take(api.Letter{Kind: api.LAck, From: 1, To: 2, Seq: at + 1}, noDraws)
		if len(sent) != 2 || sent[0].Who != (at+1)*(at+1)%3%2 || sent[0].Seq != at+2 {
			t.Fatalf("behind request %d goes %+v", at+1, sent)
		}
	}
	checkRequests(t, h, 0, request(0, (many-1)*(many-1)%3%2, many))
}

// town is a home with nodes, and the letters between them, which come in any order.
type town struct {
	chance
	home   *Home
	nodes  []*node.Node
	flight []api.Letter
	value  map[int]int64 // of each block: that of the last store that was over
	over   int
}

func newTown(t *testing.T, r chance) *town {
	t.Helper()
	w := &town{chance: r, home: made(t, r.c), value: map[int]int64{}}
	for id := range r.c.Nodes {
		n, e := node.New(r.c, id)
		if e != api.OK {
			t.Fatalf("there is no node %d of %+v: %d", id, r.c, e)
		}
		w.nodes = append(w.nodes, n)
	}
	return w
}

// send has letters go on their way; each must be such as may.
func (w *town) send(t *testing.T, all []api.Letter) {
	t.Helper()
	for _, l := range all {
		if e := letter.Check(w.c, l); e != api.OK {
			t.Fatalf("%+v is sent, which may not be: %d", l, e)
		}
	}
	w.flight = append(w.flight, all...)
}

// out takes what comes of a node; what is over must be as of a register.
func (w *town) out(t *testing.T, o node.Out) {
	t.Helper()
	w.send(t, o.Letters)
	for _, d := range o.Done {
		w.over++
		if d.Op.Write {
			w.value[d.Op.Block] = d.Op.Value
		}
		if d.Value != w.value[d.Op.Block] {
			t.Fatalf("%+v, where the value is %d", d, w.value[d.Op.Block])
		}
	}
}

// step has one letter come, or be lost if it may, or a tick be at each node.
func (w *town) step(t *testing.T, d advice.Draws) {
	t.Helper()
	if len(w.flight) == 0 || w.Intn(8) == 0 {
		for _, n := range w.nodes {
			w.out(t, n.Tick(d))
		}
		return
	}
	at := w.Intn(len(w.flight))
	l := w.flight[at]
	w.flight = slices.Delete(w.flight, at, at+1)
	switch {
	case letter.Drops(l) && w.Intn(2) == 0:
	case l.To == w.c.Nodes:
		w.send(t, w.home.Take(l, d))
	default:
		w.out(t, w.nodes[l.To].Take(l, d))
	}
}

// of is all tokens of a block, wherever they are.
func (w *town) of(block int) []api.Bundle {
	all := []api.Bundle{w.home.All()[block]}
	for _, n := range w.nodes {
		for _, l := range n.Place().Lines {
			if l.Block == block {
				all = append(all, l.Tokens)
			}
		}
	}
	for _, l := range w.flight {
		if l.Kind == api.LTokens && l.Block == block {
			all = append(all, l.Tokens)
		}
	}
	return all
}

// checkTokens tells where a block hasn't all its tokens, just one of them the owner's, with the value.
func (w *town) checkTokens(t *testing.T) {
	t.Helper()
	for block := range w.c.Blocks {
		count, owners, all := 0, 0, w.of(block)
		for _, b := range all {
			count += b.Count
			if b.Owner {
				owners++
			}
			if b.Has && b.Data != w.value[block] {
				t.Fatalf("block %d is %d at %+v", block, w.value[block], b)
			}
		}
		if count != w.c.Tokens || owners != 1 {
			t.Fatalf("of block %d there are %d tokens, %d of them the owner's: %+v", block, count, owners, all)
		}
	}
}

// checkActives tells where a node knows of another request than that which is active at home, while there is one.
func (w *town) checkActives(t *testing.T) {
	t.Helper()
	for _, n := range w.nodes {
		for _, a := range n.Place().Actives {
			if at, ok := w.home.Current(a.Block); ok && at != a {
				t.Fatalf("a node knows of %+v, home of %+v", a, at)
			}
		}
	}
}

func (w *town) busy() bool {
	return slices.ContainsFunc(w.nodes, func(n *node.Node) bool { return n.Place().Busy })
}

// P16.2, P16.3: a home with nodes keeps all tokens, each block is a register, and each operation is over, whatever the policy, though asks are lost and letters come in any order; in the end nobody waits at home.
func TestHomeWithNodes(t *testing.T) {
	for _, r := range chances(19, 150) {
		w, issued := newTown(t, r), 0
		for step := 0; step < 500 || w.busy() || len(w.flight) > 0; step++ {
			if step > 100000 {
				t.Fatalf("with %+v somebody waits for ever: %+v", w.c, w.flight)
			}
			if step < 500 && w.Intn(4) == 0 {
				op := api.Op{Block: w.Intn(w.c.Blocks), Write: w.Intn(2) == 0, Value: w.Int63n(1000)}
				o, ok := w.nodes[w.Intn(w.c.Nodes)].Issue(op, r.draws())
				if ok {
					issued++
				}
				w.out(t, o)
			}
			w.step(t, r.draws())
			w.checkTokens(t)
			w.checkActives(t)
		}
		if w.over != issued {
			t.Fatalf("%d operations are over, of %d", w.over, issued)
		}
		for block := range w.c.Blocks {
			checkRequests(t, w.home, block, noRequest)
		}
	}
}
