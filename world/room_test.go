package world

import (
	"testing"

	"jeton/api"
)

// roomFor is a config with just so much room.
func roomFor(policy, room int) api.Config {
	c := config(policy)
	c.Cap = room
	return c
}

// P17.2, P17.3: an operation whose asks have no room, all of them, is refused: the node doesn't wait; with room it is done.
func TestRefusedOp(t *testing.T) {
	for room := range 3 {
		for node := range 3 {
			if room == 0 {
				continue
			}
			w := made(t, roomFor(api.PTokenB, room))
			for range 3 {
				checkStays(t, w, load(node, 1), api.RRefused)
				checkStays(t, w, store(node, 1, 7), api.RRefused)
			}
			if s := w.Shot(); s.Steps != 6 || s.Nodes[node].Busy || len(s.Flight) > 0 {
				t.Fatalf("it looks as %+v", s)
			}
		}
	}
	w := made(t, roomFor(api.PTokenB, 5))
	play(t, w, load(0, 1))
	checkStays(t, w, load(2, 1), api.RRefused)
	checkFlight(t, w, ask(0, 1, 1, false), ask(0, 2, 1, false), ask(0, 3, 1, false))
	play(t, w, drop(1))
	checkStep(t, w, load(2, 1), api.RDone)
	checkFlight(t, w, ask(0, 1, 1, false), ask(0, 3, 1, false), ask(2, 0, 1, false), ask(2, 1, 1, false), ask(2, 3, 1, false))
}

// P17.2: one that is over at once, or asks nobody, needs no room: it is done where there is none.
func TestOpThatNeedsNoRoom(t *testing.T) {
	c := small(api.PTokenB, 2)
	w := made(t, c)
	play(t, w, store(0, 0, 7), deliver(1), deliver(1), load(0, 0), store(0, 0, 8))
	play(t, w, drop(0), store(1, 0, 9))
	if len(w.Shot().Flight) != c.Cap {
		t.Fatalf("there is room beside %+v", w.Shot().Flight)
	}
	op := api.Op{Write: true, Value: 10}
	checkStep(t, w, store(0, 0, 10), api.RDone, api.Done{Node: 0, Number: 4, Op: op, Value: 10, Step: 8})

	null := small(api.PNull, 1)
	null.Tokens, null.Nodes = 3, 3
	w = made(t, null)
	play(t, w, load(0, 0), tick)
	checkFlight(t, w, api.Letter{Kind: api.LPersist, From: 0, To: 3})
	checkStep(t, w, load(1, 0), api.RDone)
	if !w.Shot().Nodes[1].Busy {
		t.Error("node 1 doesn't wait")
	}
}

// P17.2, P17.3: a letter of which more comes than there is room for is refused: it is on its way yet, at its place, first, in the midst or last; with room it comes.
func TestRefusedDelivery(t *testing.T) {
	// Four letters come of the LPersist: in the place of itself and three others.
	for at := range 4 {
		w := made(t, roomFor(api.PTokenB, 6))
		play(t, w, load(0, 1), drop(2), load(1, 1), drop(4))
		play(t, w, tick)
		for place := range 4 - at {
			play(t, w, drop(3-place))
		}
		all := []api.Letter{ask(0, 1, 1, false), ask(0, 2, 1, false), ask(1, 0, 1, false), ask(1, 2, 1, false)}
		all = append(all[:at], persist(0, 1), persist(1, 1))
		checkFlight(t, w, all...)
		if at < 2 {
			checkStep(t, w, deliver(at), api.RDone)
			continue
		}
		for range 3 {
			checkStays(t, w, deliver(at), api.RRefused)
			checkStays(t, w, deliver(at+1), api.RRefused)
		}
		checkFlight(t, w, all...)
		checkHome(t, w, 1, owned(5, 0))
		for range at - 1 {
			play(t, w, drop(0))
		}
		checkStep(t, w, deliver(1), api.RDone)
		checkFlight(t, w, all[at-1], persist(1, 1),
			activate(0, 1, 1, 0), activate(1, 1, 1, 0), activate(2, 1, 1, 0), tokens(3, 0, 1, owned(5, 0)))
	}
}

// P17.2, P17.3: of one that is refused at the first place, with others behind it, the order stays.
func TestRefusedAtTheFirstPlace(t *testing.T) {
	w := made(t, roomFor(api.PNull, 4))
	play(t, w, load(0, 0), load(1, 1), load(2, 2), tick)
	all := []api.Letter{persist(0, 0), persist(1, 1), persist(2, 2)}
	for at := range 3 {
		checkStays(t, w, deliver(at), api.RRefused)
		checkFlight(t, w, all...)
	}
	if s := w.Shot(); s.Steps != 7 || s.Ticks != 1 {
		t.Errorf("%d steps, %d ticks", s.Steps, s.Ticks)
	}
}

// P17.2: a letter that comes makes room: for one that is sent on, also where all room is taken.
func TestWhatComesMakesRoom(t *testing.T) {
	alone := api.Config{Nodes: 1, Blocks: 1, Tokens: 1, Sets: 1, Ways: 1, Cap: 1, Wait: 1, Policy: api.PTokenB}
	w := made(t, alone)
	checkStep(t, w, store(0, 0, 7), api.RDone)
	checkFlight(t, w, ask(0, 1, 0, true))
	checkStep(t, w, deliver(0), api.RDone)
	checkFlight(t, w, tokens(1, 0, 0, owned(1, 0)))
	op := api.Op{Write: true, Value: 7}
	checkStep(t, w, deliver(0), api.RDone, api.Done{Node: 0, Number: 1, Op: op, Value: 7, Step: 3})

	w = made(t, roomFor(api.PNull, 4))
	play(t, w, load(1, 0), tick)
	checkStep(t, w, deliver(0), api.RDone)
	if len(w.Shot().Flight) != 4 {
		t.Fatalf("just %+v are on their way", w.Shot().Flight)
	}
	// All room is taken; the tokens' LDone goes in their place.
	checkStep(t, w, deliver(1), api.RDone)
	play(t, w, load(0, 1), tick)
	checkFlight(t, w, activate(0, 0, 1, 1), activate(2, 0, 1, 1), tokens(3, 1, 0, owned(5, 0)), persist(0, 1))
	checkStep(t, w, deliver(2), api.RDone, api.Done{Node: 1, Number: 1, Value: 0, Step: 7})
	checkFlight(t, w, activate(0, 0, 1, 1), activate(2, 0, 1, 1), persist(0, 1), told(1, 0, 1))
	// There is no room for three LDeactivates, nor for what comes of the LPersist.
	checkStays(t, w, deliver(3), api.RRefused)
	checkStays(t, w, deliver(2), api.RRefused)
	play(t, w, deliver(0), deliver(0))
	checkStays(t, w, deliver(0), api.RRefused)
	checkStep(t, w, deliver(1), api.RDone)
	checkFlight(t, w, persist(0, 1), deactivate(0, 0, 1), deactivate(1, 0, 1), deactivate(2, 0, 1))
	// One LAck goes in the place of each LDeactivate.
	play(t, w, deliver(1), deliver(1), deliver(1))
	checkFlight(t, w, persist(0, 1), ack(0, 0, 1), ack(1, 0, 1), ack(2, 0, 1))
}

// P17.2, P17.3: tokens that come to a node are refused where there is no room for what must go home and the end that it tells: nothing is over, and its lines stay.
func TestRefusedAtANode(t *testing.T) {
	c := roomFor(api.PNull, 5)
	c.Ways = 1
	w := made(t, c)
	play(t, w, store(0, 1, 7), tick)
	drain(t, w)
	checkLines(t, w, 0, api.Line{Block: 1, Tokens: owned(5, 7)})

	play(t, w, store(0, 0, 8), load(1, 2), tick, deliver(0), deliver(1), load(2, 3), tick)
	full := []api.Letter{
		persist(1, 2), activate(1, 0, 1, 0), activate(2, 0, 1, 0), tokens(3, 0, 0, owned(5, 0)), persist(2, 3),
	}
	checkFlight(t, w, full...)
	for range 3 {
		checkStays(t, w, deliver(3), api.RRefused)
	}
	checkFlight(t, w, full...)
	checkLines(t, w, 0, api.Line{Block: 1, Tokens: owned(5, 7)})
	play(t, w, deliver(1))
	steps := w.Shot().Steps
	op := api.Op{Write: true, Value: 8}
	checkStep(t, w, deliver(2), api.RDone, api.Done{Node: 0, Number: 2, Op: op, Value: 8, Step: steps + 1})
	checkFlight(t, w, persist(1, 2), activate(2, 0, 1, 0), persist(2, 3), tokens(0, 3, 1, owned(5, 7)), told(0, 0, 1))
	checkLines(t, w, 0, api.Line{Tokens: owned(5, 8)})
}

// P17.2, P17.3: a tick is refused where there is no room for what all nodes send: no node has ticked, and it isn't counted; with room it is done.
func TestRefusedTick(t *testing.T) {
	for room := 1; room < 4; room++ {
		w := made(t, roomFor(api.PNull, room))
		play(t, w, load(0, 0), store(2, 1, 7), load(1, 0))
		if room == 3 {
			play(t, w, tick)
			checkFlight(t, w, persist(0, 0), persist(1, 0), persist(2, 1))
			continue
		}
		for range 3 {
			checkStays(t, w, tick, api.RRefused)
		}
		if s := w.Shot(); s.Ticks != 0 || len(s.Flight) > 0 {
			t.Fatalf("it looks as %+v", s)
		}
	}
	c := roomFor(api.PTokenB, 8)
	c.Tries = 8
	w := made(t, c)
	play(t, w, load(0, 0), store(2, 1, 7))
	for range 3 {
		checkStays(t, w, tick, api.RRefused)
	}
	play(t, w, drop(5), drop(3), drop(1))
	checkStays(t, w, tick, api.RRefused)
	play(t, w, drop(0))
	checkFlight(t, w, ask(0, 3, 0, false), ask(2, 1, 1, true))
	checkStep(t, w, tick, api.RDone)
	checkFlight(t, w, ask(0, 3, 0, false), ask(2, 1, 1, true),
		ask(0, 1, 0, false), ask(0, 2, 0, false), ask(0, 3, 0, false), ask(2, 0, 1, true), ask(2, 1, 1, true), ask(2, 3, 1, true))
	// All room is taken, but no node's time is over: the tick is done.
	checkStep(t, w, tick, api.RDone)
	checkStays(t, w, tick, api.RRefused)
	if got := w.Shot().Ticks; got != 2 {
		t.Errorf("%d ticks", got)
	}
}

// P17.1 to P17.3: the greatest world: each node asks of all others till there is no room; then it is refused, and what is on its way comes.
func TestAtTheLimits(t *testing.T) {
	c := api.Config{Nodes: 64, Blocks: 64, Tokens: 65536, Sets: 64, Ways: 16, Cap: 65536, Wait: 1, Tries: 8, Policy: api.PTokenB}
	w := made(t, c)
	for node := range 64 {
		play(t, w, store(node, node, node))
	}
	for range 600 {
		play(t, w, tick)
	}
	if got := len(w.Shot().Flight); got != 9*64*64+64 {
		t.Fatalf("behind all tries %d letters are on their way", got)
	}
	for node := range 64 {
		come(t, w, api.LAsk, 64, node)
		over := come(t, w, api.LTokens, node, node)
		op := api.Op{Block: node, Write: true, Value: int64(node)}
		if want := (api.Done{Node: node, Number: 1, Op: op, Value: int64(node), Step: w.Shot().Steps}); len(over) != 1 || over[0] != want {
			t.Fatalf("%+v is over", over)
		}
	}
	for node := range 64 {
		play(t, w, load(node, (node+1)%64))
	}
	refused := 0
	for range 500 {
		if got, _ := w.Step(tick); got == api.RRefused {
			refused++
		}
	}
	if got := w.Shot(); refused < 200 || got.Ticks != 1100-refused || len(got.Flight) != 65536 {
		t.Fatalf("%d of 500 ticks are refused, %d done, beside %d letters", refused, got.Ticks, len(got.Flight))
	}
	come(t, w, api.LAsk, 1, 1)
	checkStep(t, w, deliver(65536), api.RNothing)
	want := api.Done{Node: 0, Number: 2, Op: api.Op{Block: 1}, Value: 1, Step: w.Shot().Steps + 1}
	checkStep(t, w, deliver(65535), api.RDone, want)
	checkStep(t, w, load(0, 2), api.RRefused)
	checkLines(t, w, 0, api.Line{Tokens: owned(65536, 0)}, api.Line{Block: 1, Tokens: valued(1, 1)})
	checkLines(t, w, 1, api.Line{Block: 1, Tokens: owned(65535, 1)})
}

// P17.2, P17.3: many refusals in a row, and in time.
func TestManyRefusals(t *testing.T) {
	w := made(t, roomFor(api.PNull, 3))
	play(t, w, load(0, 0), load(1, 1), load(2, 2), tick)
	for at := range 100000 {
		checkStep(t, w, deliver(at%3), api.RRefused)
	}
	checkFlight(t, w, persist(0, 0), persist(1, 1), persist(2, 2))
	if got := w.Shot().Steps; got != 100004 {
		t.Errorf("%d steps", got)
	}
}
