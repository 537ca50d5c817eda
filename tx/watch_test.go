package tx_test

import (
	"slices"
	"testing"

	"quash/api"
	"quash/sig"
	"quash/space"
	"quash/tx"
)

// mostHeld is how many steps a thread holds the gate at most.
const mostHeld = api.MaxLive*(api.SigWords+2) + api.MaxWrites + api.GateSlack

// watch makes steps of threads in one space in which nobody else does anything, and asks behind each one what is promised of them all.
type watch struct {
	c       api.Config
	s       *space.Space
	threads []*watched // thread i + 1
	cells   []int64    // what committed attempts wrote, in the order of their gate numbers
	last    int        // the greatest of these
	states  map[int][]int64
	counts  map[string]int
}

type watched struct {
	x       *tx.Tx
	stamp   int
	why     api.Errno // of the abort that it asked for itself
	asked   []int     // the cells that the attempt has read, or begun to read
	free    []int     // slots that were Free all through the begin
	atTake  []int64   // what the cells held when it took the gate
	held    int       // its steps since
	safe    bool      // it was not doomed then
	mustWin bool      // it has doomed somebody
	givesUp bool      // it was deferred
	doomer  int       // who has doomed it
}

func newWatch(t *testing.T, c api.Config, threads int) *watch {
	t.Helper()
	s := newSpace(t, c)
	w := &watch{c: c, s: s, cells: s.View().Cells, states: map[int][]int64{0: s.View().Cells}, counts: map[string]int{}}
	for i := range threads {
		w.threads = append(w.threads, &watched{x: newTx(t, s, i+1)})
	}
	return w
}

func (w *watch) begin(t *testing.T, i, stamp int) {
	t.Helper()
	one := w.threads[i]
	wantOK(t, one.x.Begin(stamp))
	*one = watched{x: one.x, stamp: stamp}
	for slot, now := range w.s.View().Slots {
		if now.Head.State == api.Free {
			one.free = append(one.free, slot)
		}
	}
}

func (w *watch) read(t *testing.T, i, cell int) {
	t.Helper()
	one := w.threads[i]
	wantOK(t, one.x.Read(cell))
	if one.x.Phase() == api.PhaseRead {
		one.asked = append(one.asked, cell)
	}
}

func (w *watch) abort(t *testing.T, i int, why api.Errno) {
	t.Helper()
	wantOK(t, w.threads[i].x.Abort(why))
	w.threads[i].why = why
}

func (w *watch) step(t *testing.T, i int) int {
	t.Helper()
	one := w.threads[i]
	ahead, phase, events := w.s.View(), one.x.Phase(), len(w.s.Events())
	w.s.Turn(i + 1)
	answer := one.x.Step()
	now := w.s.View()
	idle := phase == api.PhaseIdle || phase == api.PhaseActive
	if n := w.s.Done(); n > 1 || idle != (n == 0) || idle != (answer == api.Idle) {
		t.Fatal("accesses", n, "phase", phase, "answer", answer)
	}
	if answer == api.Wait {
		w.wantWait(t, i, phase, ahead.Gate, now.Gate)
	}
	w.wantGate(t, i, phase, ahead, now)
	w.wantDooms(t, i, ahead, now)
	w.keepFree(now)
	for _, e := range w.s.Events()[events:] {
		w.wantEvent(t, i, e, ahead)
	}
	if now.Gate.Owner == 0 {
		w.wantCells(t, now)
		w.wantReadsHold(t, now)
	}
	return answer
}

// W7: who waits does so for another one that holds the gate, or gives it up, being deferred; so whoever holds it goes on.
func (w *watch) wantWait(t *testing.T, i, phase int, ahead, now api.Gate) {
	t.Helper()
	w.counts["wait"]++
	one := w.threads[i]
	if ahead.Owner == i+1 {
		if w.c.Tag != api.ReaderBias || phase != api.PhaseCommit || now.Owner != 0 || one.mustWin {
			t.Fatal("waits, holding the gate", phase, now)
		}
		one.givesUp = true
		return
	}
	if ahead.Owner == 0 || ahead != now || phase != api.PhaseRead && phase != api.PhaseCommit {
		t.Fatal("waits", phase, ahead, now)
	}
}

// W6: only who commits, and has written something, takes the gate, and it gives it back soon.
func (w *watch) wantGate(t *testing.T, i, phase int, ahead, now api.View) {
	t.Helper()
	one := w.threads[i]
	if ahead.Gate.Owner == i+1 {
		one.held++
	}
	if one.held > mostHeld {
		t.Fatal("holds the gate", one.held)
	}
	if ahead.Gate == now.Gate {
		return
	}
	if now.Gate.Number != ahead.Gate.Number+1 || phase != api.PhaseCommit || len(one.x.Writes()) == 0 {
		t.Fatal(phase, ahead.Gate, now.Gate)
	}
	switch (api.Gate{Number: now.Gate.Number % 2, Owner: now.Gate.Owner}) {
	case api.Gate{Number: 1, Owner: i + 1}:
		slot, _ := one.x.Slot()
		one.atTake, one.held, one.safe = ahead.Cells, 0, !ahead.Slots[slot].Head.Doomed
	case api.Gate{}:
		if ahead.Gate.Owner != i+1 {
			t.Fatal("gives what is not its own", ahead.Gate)
		}
	default:
		t.Fatal(ahead.Gate, now.Gate)
	}
}

// W3 (a), W5: who dooms holds the gate, and has found a bit of its writes among those that the victim has published.
func (w *watch) wantDooms(t *testing.T, i int, ahead, now api.View) {
	t.Helper()
	one := w.threads[i]
	for slot := range now.Slots {
		before, behind := ahead.Slots[slot], now.Slots[slot]
		if before.Head.Doomed || !behind.Head.Doomed {
			continue
		}
		victim := w.threads[behind.Head.Thread-1]
		writes := w.sigOf(t, one.x.Writes())
		asked, _ := sig.Of(victim.asked, w.c.Bits)
		if ahead.Gate.Owner != i+1 || behind.Head.By != i+1 || !sig.Meets(writes, behind.Words) || sig.Join(asked, behind.Words) != asked {
			t.Fatal(ahead.Gate, behind, "of", i+1)
		}
		if s, gen := victim.x.Slot(); s != slot || gen != behind.Head.Gen || victim == one {
			t.Fatal(s, gen, slot, behind)
		}
		victim.doomer, one.mustWin = i+1, true
		w.counts["doom"]++
	}
}

func (w *watch) sigOf(t *testing.T, l []api.Pair) api.Sig {
	t.Helper()
	var cells []int
	for _, p := range l {
		cells = append(cells, p.Cell)
	}
	s, e := sig.Of(cells, w.c.Bits)
	wantOK(t, e)
	return s
}

func (w *watch) keepFree(now api.View) {
	for _, one := range w.threads {
		one.free = slices.DeleteFunc(one.free, func(slot int) bool { return now.Slots[slot].Head.State != api.Free })
	}
}

func (w *watch) wantEvent(t *testing.T, i int, e api.Event, ahead api.View) {
	t.Helper()
	one := w.threads[i]
	if e.Thread != i+1 || e.Stamp != one.stamp || e.Step != w.s.Step() {
		t.Fatal(e)
	}
	switch e.Kind {
	case api.EventBegin:
		w.counts["begin"]++
		if e.Gate != ahead.Gate.Number {
			t.Fatal(e, ahead.Gate)
		}
	case api.EventSlots:
		w.counts["slots"]++
		if e.Gate != ahead.Gate.Number || len(one.free) > 0 {
			t.Fatal(e, ahead, one.free)
		}
	case api.EventRead:
		w.counts["read"]++
		w.wantState(t, one.x.Reads(), e.Gate)
	case api.EventCommit:
		w.wantCommit(t, i, e, ahead)
	case api.EventAbort:
		w.wantAbort(t, one, e)
	}
}

// wantState: all that an attempt has read so far is of the state which the gate's number tells.
func (w *watch) wantState(t *testing.T, reads []api.Pair, gate int) {
	t.Helper()
	for _, p := range reads {
		if cells := w.states[gate]; cells == nil || cells[p.Cell] != p.X {
			t.Fatal(p, gate, cells)
		}
	}
}

func (w *watch) wantCommit(t *testing.T, i int, e api.Event, ahead api.View) {
	t.Helper()
	one := w.threads[i]
	if len(one.x.Writes()) == 0 {
		w.counts["leave"]++
		if e.Gate%2 != 0 && (e.Gate != 1 || len(one.x.Reads()) > 0) {
			t.Fatal(e)
		}
		w.wantState(t, one.x.Reads(), e.Gate)
		return
	}
	w.counts["commit"]++
	if e.Gate != ahead.Gate.Number || ahead.Gate.Owner != i+1 || e.Gate <= w.last || !one.safe || one.givesUp {
		t.Fatal(e, ahead.Gate, w.last)
	}
	w.last = e.Gate
	for _, p := range one.x.Reads() {
		if one.atTake[p.Cell] != p.X {
			t.Fatal(p, one.atTake)
		}
	}
	for _, p := range one.x.Writes() {
		w.cells[p.Cell] = p.X
	}
	one.mustWin = false
}

// W3, W4, W5
func (w *watch) wantAbort(t *testing.T, one *watched, e api.Event) {
	t.Helper()
	w.counts["abort"]++
	ok := false
	switch e.E {
	case api.ErrDoomed:
		w.counts["doomed"]++
		ok = e.By == one.doomer && e.By != 0
	case api.ErrDefer:
		w.counts["defer"]++
		ok = one.givesUp && e.By == 0 && w.c.Tag == api.ReaderBias
	case api.ErrYield:
		w.counts["yield"]++
		ok = e.By == 0 && w.c.Tag == api.Aging
	default:
		ok = e.E == one.why && e.E != api.OK && e.By == 0
	}
	if !ok || one.mustWin || w.c.Tag == api.CommitWins && one.safe || one.givesUp && e.E != api.ErrDefer {
		t.Fatal(e, *one)
	}
}

func (w *watch) wantCells(t *testing.T, now api.View) {
	t.Helper()
	if !slices.Equal(now.Cells, w.cells) {
		t.Fatal(now.Cells, "want", w.cells)
	}
	w.states[now.Gate.Number] = now.Cells
}

// W2
func (w *watch) wantReadsHold(t *testing.T, now api.View) {
	t.Helper()
	for i, one := range w.threads {
		phase := one.x.Phase()
		slot, gen := one.x.Slot()
		h := now.Slots[slot].Head
		if phase == api.PhaseIdle || phase == api.PhaseBegin || h.Doomed {
			continue
		}
		if h.Gen != gen || h.Thread != i+1 || h.State != api.Live {
			t.Fatal("an attempt without its slot", i+1, h)
		}
		writes := one.x.Writes()
		for _, p := range one.x.Reads() {
			own := slices.ContainsFunc(writes, func(q api.Pair) bool { return q.Cell == p.Cell })
			if !own && now.Cells[p.Cell] != p.X {
				t.Fatal("read", p, "cells", now.Cells)
			}
		}
	}
}
