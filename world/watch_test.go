package world_test

import (
	"slices"
	"testing"

	"quash/api"
	"quash/code"
	"quash/ghost"
	"quash/opaque"
	"quash/sig"
	"quash/world"
)

// mostHeld is how many steps of its own a thread holds the gate at most.
const mostHeld = api.MaxLive*(api.SigWords+2) + api.MaxWrites + api.GateSlack

// watch makes steps of a world, and asks behind each one what is promised of the whole.
type watch struct {
	s       api.Script
	w       *world.World
	start   []int64 // of all cells
	threads []*watched
	dooms   []doom
	counts  map[string]int
}

// watched is what is known of a thread's attempt.
type watched struct {
	free  []int // slots that were Free all through its begin
	asked []int // cells that it has read, or begun to read
	hold  *hold // nil: it has not taken the gate
	doom  doom  // the zero one: it is not doomed
}

// hold is what an attempt has done since it took the gate.
type hold struct {
	steps  int
	safe   bool // it was not doomed then
	defers int
	head   api.Head // the one that it looked at last, and the words behind it
	words  api.Sig
	met    []api.Victim
	tried  int // of these, to doom them
	stored int
	gave   bool
}

// doom is one that was set: in which step, whose attempt, by whose attempt, begun in which step.
type doom struct {
	step, of, by, begin int
}

// moment is how things stand, for one thread.
type moment struct {
	view   api.View
	state  api.ProgState
	peer   api.Peer
	events int
}

func newWatch(t *testing.T, s api.Script) *watch {
	x := &watch{s: s, w: newWorld(t, s), counts: map[string]int{}}
	x.start = x.w.View().Cells
	for range s.Programs {
		x.threads = append(x.threads, &watched{})
	}
	return x
}

func (x *watch) now(t *testing.T, thread int) moment {
	return moment{view: x.w.View(), state: state(t, x.w, thread), peer: peer(t, x.w, thread), events: len(x.w.Events())}
}

func (x *watch) step(t *testing.T, thread int) int {
	ahead := x.now(t, thread)
	answer := x.w.Step(thread)
	now := x.now(t, thread)
	if n := x.w.Done(); n > 1 {
		t.Fatal("accesses in a step", n)
	}
	if answer == api.Wait {
		x.wantWait(t, thread, ahead, now)
	}
	x.keepFree(thread, ahead, now)
	x.keepAsked(thread, ahead, now)
	x.wantGate(t, thread, ahead, now)
	x.wantHold(t, thread, ahead, now)
	x.wantDooms(t, thread, ahead.view, now.view)
	for _, e := range x.w.Events()[ahead.events:] {
		x.wantEvent(t, thread, e, ahead, now)
	}
	if now.events > ahead.events || now.view.Gate != ahead.view.Gate { // nothing else changes stories, or what cells hold where nobody holds the gate
		x.wantOrder(t, now.view)
	}
	if now.view.Gate.Owner == 0 {
		x.wantReadsHold(t, now.view)
	}
	return answer
}

// W7: who waits does so for another one that holds the gate, or gives it up, being deferred. So where nobody holds the gate nobody's next step is a Wait but for that one, and else the holder's is none but for that one.
func (x *watch) wantWait(t *testing.T, thread int, ahead, now moment) {
	x.counts["wait"]++
	if ahead.view.Gate.Owner == thread {
		h := x.threads[thread-1].hold
		if x.s.Config.Tag != api.ReaderBias || now.view.Gate.Owner != 0 || now.peer.Defers != h.defers+1 {
			t.Fatal("waits, holding the gate", ahead, now)
		}
		return
	}
	looks := now.peer.Phase == api.PhaseRead || now.peer.Phase == api.PhaseCommit
	if ahead.view.Gate.Owner == 0 || now.view.Gate != ahead.view.Gate || !looks || state(t, x.w, ahead.view.Gate.Owner).Done {
		t.Fatal("waits", ahead, now)
	}
}

// keepFree keeps, of each thread, which slots have been Free since its begin began.
func (x *watch) keepFree(thread int, ahead, now moment) {
	if ahead.peer.Phase == api.PhaseIdle {
		one := x.threads[thread-1]
		one.free = nil
		for slot := range ahead.view.Slots {
			one.free = append(one.free, slot)
		}
		one.free = stillFree(one.free, ahead.view)
	}
	for _, one := range x.threads {
		one.free = stillFree(one.free, now.view)
	}
}

func stillFree(l []int, v api.View) []int {
	return slices.DeleteFunc(l, func(slot int) bool { return v.Slots[slot].Head.State != api.Free })
}

// keepAsked keeps the cells of reads, as they begin: what a load pops lies on the stack till it has ended.
func (x *watch) keepAsked(thread int, ahead, now moment) {
	if now.peer.Phase == api.PhaseRead && ahead.peer.Phase != api.PhaseRead {
		one, stack := x.threads[thread-1], now.state.Stack
		one.asked = append(one.asked, int(stack[len(stack)-1]))
	}
}

// instruction is the one that a thread does.
func (x *watch) instruction(thread int, m moment) api.Op {
	if l := x.s.Programs[thread-1]; m.state.Place < len(l) {
		return l[m.state.Place].Op
	}
	return api.DoHalt
}

// W6: only who has come to its commit, and has written something, takes the gate.
func (x *watch) wantGate(t *testing.T, thread int, ahead, now moment) {
	one, was, is := x.threads[thread-1], ahead.view.Gate, now.view.Gate
	switch {
	case was == is:
	case is.Number != was.Number+1:
		t.Fatal("gate", was, is)
	case was.Owner == 0 && is.Owner == thread:
		if x.instruction(thread, ahead) != api.DoCommit || len(ahead.peer.Writes) == 0 || !ahead.state.Inside || is.Number%2 != 1 {
			t.Fatal("takes the gate", ahead, now)
		}
		one.hold = &hold{safe: !ahead.view.Slots[ahead.peer.Slot].Head.Doomed, defers: ahead.peer.Defers}
		x.counts["take"]++
	case was.Owner == thread && is == api.Gate{Number: was.Number + 1}:
		one.hold.gave = true
	default:
		t.Fatal("gate", was, is, "in a step of", thread)
	}
}

// W3 (a), W4, W6: what a thread does that holds the gate.
func (x *watch) wantHold(t *testing.T, thread int, ahead, now moment) {
	h := x.threads[thread-1].hold
	if ahead.view.Gate.Owner != thread {
		return
	}
	if h.steps++; h.steps > mostHeld {
		t.Fatal("holds the gate", h.steps)
	}
	log := x.w.Log()
	a := log[len(log)-1]
	switch {
	case a.Kind == api.OnHead && a.Op == api.OpLoad:
		h.head = now.view.Slots[a.At].Head
	case a.Kind == api.OnWord && a.Op == api.OpLoad:
		slot, word := a.At/api.SigWords, a.At%api.SigWords
		h.words[word] = now.view.Slots[slot].Words[word]
		if word == api.SigWords-1 && sig.Meets(h.words, x.writes(t, now.peer)) {
			h.met = append(h.met, api.Victim{Slot: slot, Gen: h.head.Gen, Stamp: h.head.Stamp, Thread: h.head.Thread})
		}
	case a.Kind == api.OnHead && a.Op == api.OpTrade:
		if v := h.met[h.tried]; v.Slot != a.At {
			t.Fatal("dooms", a, h.met)
		}
		h.tried++
	case a.Kind == api.OnCell && a.Op == api.OpStore:
		if h.tried != len(h.met) || now.peer.Writes[h.stored].Cell != a.At {
			t.Fatal("writes", a, *h)
		}
		h.stored++
	case a.Kind != api.OnGate:
		t.Fatal("does else", a)
	}
}

func (x *watch) writes(t *testing.T, p api.Peer) api.Sig {
	var cells []int
	for _, w := range p.Writes {
		cells = append(cells, w.Cell)
	}
	s, e := sig.Of(cells, x.s.Config.Bits)
	if e != api.OK {
		t.Fatal(cells, e)
	}
	return s
}

// W3 (a), W5: who dooms holds the gate; a bit of what it writes is among those that the victim has published, all of which are of cells that it has read, or begun to read.
func (x *watch) wantDooms(t *testing.T, thread int, ahead, now api.View) {
	for slot := range now.Slots {
		was, is := ahead.Slots[slot], now.Slots[slot]
		if was.Head.Doomed || !is.Head.Doomed {
			continue
		}
		victim := x.threads[is.Head.Thread-1]
		p := peer(t, x.w, is.Head.Thread)
		asked, e := sig.Of(victim.asked, x.s.Config.Bits)
		met := sig.Meets(is.Words, x.writes(t, peer(t, x.w, thread)))
		if e != api.OK || ahead.Gate.Owner != thread || is.Head.By != thread || is.Head.Thread == thread || !met || sig.Join(asked, is.Words) != asked || p.Slot != slot || p.Gen != is.Head.Gen {
			t.Fatal("doomed", was, is, "by", thread, "asked", victim.asked)
		}
		victim.doom = doom{step: lastStep(x.w), of: is.Head.Thread, by: thread, begin: openOf(t, x.w, thread).Begin}
		x.dooms = append(x.dooms, victim.doom)
		x.counts["doom"]++
	}
}

// lastStep is the number of the step in which the last access was made.
func lastStep(w *world.World) int {
	l := w.Log()
	return l[len(l)-1].Step
}

// openOf is the story of a thread's attempt that lives.
func openOf(t *testing.T, w *world.World, thread int) api.Story {
	for _, s := range w.Stories() {
		if s.Thread == thread && s.Fate == api.Lives {
			return s
		}
	}
	t.Fatal("no attempt of", thread)
	return api.Story{}
}

func (x *watch) wantEvent(t *testing.T, thread int, e api.Event, ahead, now moment) {
	one := x.threads[thread-1]
	switch e.Kind {
	case api.EventBegin:
		x.counts["begin"]++
		if now.state.Tries == 0 && now.peer.Defers != 0 {
			t.Fatal("deferred ahead of its first attempt", now)
		}
		*one = watched{}
	case api.EventSlots:
		x.counts["slots"]++
		x.wantNoSlots(t, thread, one)
	case api.EventRead:
		x.counts["read"]++
	case api.EventCommit:
		x.wantCommit(t, thread, ahead)
	case api.EventAbort:
		x.wantAbort(t, thread, e, ahead, now)
	}
}

// W3 (e): each slot was taken when it was tried, and none was Free all the while.
func (x *watch) wantNoSlots(t *testing.T, thread int, one *watched) {
	if len(one.free) > 0 {
		t.Fatal("free all the while", one.free)
	}
	var own []api.Access
	for _, a := range x.w.Log() {
		if a.Thread == thread {
			own = append(own, a)
		}
	}
	n := x.s.Config.Slots
	for slot, a := range own[len(own)-n:] {
		if a.Kind != api.OnHead || a.Op != api.OpTrade || a.At != slot || a.Ok {
			t.Fatal("tries", slot, a)
		}
	}
}

// older are those of them that have an older stamp.
func older(l []api.Victim, stamp int) []api.Victim {
	return slices.DeleteFunc(slices.Clone(l), func(v api.Victim) bool { return v.Stamp >= stamp })
}

func (x *watch) wantCommit(t *testing.T, thread int, ahead moment) {
	x.counts["commit"]++
	h, c := x.threads[thread-1].hold, x.s.Config
	if len(ahead.peer.Writes) == 0 {
		if h != nil {
			t.Fatal("took the gate for nothing", ahead)
		}
		x.counts["leave"]++
		return
	}
	deferred := c.Tag == api.ReaderBias && len(h.met) > c.Bias && h.defers < c.Defer
	yields := c.Tag == api.Aging && len(older(h.met, ahead.state.Stamp)) > 0
	if !h.safe || deferred || yields || h.stored != len(ahead.peer.Writes) || !h.gave {
		t.Fatal("commits", *h, ahead)
	}
}

// W3, W4, W5
func (x *watch) wantAbort(t *testing.T, thread int, e api.Event, ahead, now moment) {
	x.counts["abort"]++
	one, c := x.threads[thread-1], x.s.Config
	h := one.hold
	ok := false
	switch op := x.instruction(thread, ahead); e.E {
	case api.ErrDoomed:
		x.counts["doomed"]++
		ok = e.By != 0 && one.doom.by == e.By && (op == api.DoLoad || op == api.DoCommit && h != nil)
	case api.ErrDefer:
		x.counts["defer"]++
		ok = c.Tag == api.ReaderBias && h.safe && len(h.met) > c.Bias && h.defers < c.Defer
	case api.ErrYield:
		x.counts["yield"]++
		ok = c.Tag == api.Aging && h.safe && len(older(h.met, ahead.state.Stamp)) > 0
	case api.ErrProgAbort:
		x.counts["own"]++
		ok = h == nil && op == api.DoAbort && !now.state.Done
	case api.ErrWrites:
		x.counts["writes"]++
		ok = h == nil && op == api.DoStore && len(ahead.peer.Writes) == api.MaxWrites && now.state.Done
	case api.ErrProgStack, api.ErrProgTwice, api.ErrProgCell, api.ErrProgOpen:
		x.counts["wrong"]++
		ok = h == nil && now.state.Done
	}
	if !ok || h != nil && (h.tried > 0 || h.stored > 0 || !h.gave || c.Tag == api.CommitWins && h.safe) {
		t.Fatal("aborts", e, *one, ahead)
	}
	if now.state.Done && now.state.E != e.E {
		t.Fatal("ends", e, now)
	}
}

// W1, P24.7, and of P24.8 what the cells hold.
func (x *watch) wantOrder(t *testing.T, v api.View) {
	l := x.w.Stories()
	if e, at := opaque.Check(x.s.Start, l, opaque.Order(l)); e != api.OK || at != 0 {
		t.Fatal("opaque", e, at, l)
	}
	if got := ghost.Final(x.start, l); v.Gate.Owner == 0 && !slices.Equal(got, v.Cells) {
		t.Fatal("final", got, v.Cells)
	}
}

// W2, P24.8
func (x *watch) wantReadsHold(t *testing.T, v api.View) {
	for i := range x.threads {
		p := peer(t, x.w, i+1)
		h := v.Slots[p.Slot].Head
		if h.State != api.Live || h.Thread != i+1 || h.Gen != p.Gen || h.Doomed {
			continue
		}
		x.counts["holds"]++
		for _, r := range p.Reads {
			own := slices.ContainsFunc(p.Writes, func(w api.Pair) bool { return w.Cell == r.Cell })
			if !own && v.Cells[r.Cell] != r.X {
				t.Fatal("read", r, "cells", v.Cells, p)
			}
		}
	}
}

// end asks what is promised of the whole run: W5, W8, W10.
func (x *watch) end(t *testing.T) {
	l, gate := x.w.Stories(), x.w.View().Gate
	for _, d := range x.dooms {
		at := slices.IndexFunc(l, func(s api.Story) bool { return s.Thread == d.by && s.Begin == d.begin })
		if holder := l[at]; holder.Fate != api.Commits && (holder.Fate != api.Lives || gate.Owner != d.by) {
			t.Fatal("has doomed", d, holder)
		}
	}
	for _, s := range l {
		within := func(d doom) bool { return d.of == s.Thread && d.by == s.By && d.step > s.Begin && d.step < s.End }
		if s.E == api.ErrDoomed && !slices.ContainsFunc(x.dooms, within) {
			t.Fatal("charged to nobody", s, x.dooms)
		}
	}
	step := 0
	for _, a := range x.w.Log() {
		if a.Step == step {
			t.Fatal("two accesses", a)
		}
		step = a.Step
	}
	for i, list := range x.s.Programs {
		x.wantVerified(t, list, state(t, x.w, i+1))
	}
}

// W10
func (x *watch) wantVerified(t *testing.T, l []api.Instr, y api.ProgState) {
	own := slices.Contains([]api.Errno{api.ErrProgStack, api.ErrProgTwice, api.ErrProgNone, api.ErrProgOpen}, y.E)
	switch e, _ := code.Verify(l); {
	case e == api.OK && own:
		t.Fatal("verified", l, y)
	case e == api.OK:
		x.counts["verified"]++
	case own:
		x.counts["refused"]++
	}
}
