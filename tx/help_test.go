package tx_test

import (
	"slices"
	"testing"

	"quash/api"
	"quash/space"
	"quash/tx"
)

// config is one of so many slots, by that tag. With Bits 128 cell 0 has a bit in each word.
func config(n, tag, bias, most int) api.Config {
	return api.Config{Cells: 20, Slots: n, Bits: 128, Tag: tag, Bias: bias, Defer: most}
}

func wins(n int) api.Config { return config(n, api.CommitWins, 0, 0) }

// newSpace is one whose cells hold 1000 and their numbers.
func newSpace(t *testing.T, c api.Config) *space.Space {
	t.Helper()
	s, e := space.New(c)
	if e != api.OK {
		t.Fatal(c, e)
	}
	cells := make([]int64, c.Cells)
	for i := range cells {
		cells[i] = int64(1000 + i)
	}
	s.Fill(cells)
	return s
}

func newTx(t *testing.T, s *space.Space, thread int) *tx.Tx {
	t.Helper()
	x, e := tx.New(s, thread)
	if x == nil || e != api.OK {
		t.Fatal(thread, x, e)
	}
	return x
}

// mostSteps is more than an operation has that does not wait for others.
const mostSteps = 80

// finish makes steps of that thread till no operation is under way, and tells how many.
func finish(t *testing.T, s *space.Space, thread int, x *tx.Tx) int {
	t.Helper()
	for n := range mostSteps {
		if p := x.Phase(); p == api.PhaseIdle || p == api.PhaseActive {
			return n
		}
		s.Turn(thread)
		x.Step()
	}
	t.Fatal("not ended", x.Phase())
	return mostSteps
}

// goOn makes steps that answer Ran.
func goOn(t *testing.T, s *space.Space, thread int, x *tx.Tx, steps int) {
	t.Helper()
	for i := range steps {
		s.Turn(thread)
		if a := x.Step(); a != api.Ran {
			t.Fatal("step", i, "answer", a)
		}
	}
}

// begun is a thread whose attempt lives.
func begun(t *testing.T, s *space.Space, thread, stamp int) *tx.Tx {
	t.Helper()
	x := newTx(t, s, thread)
	beginOf(t, s, thread, stamp, x)
	return x
}

func beginOf(t *testing.T, s *space.Space, thread, stamp int, x *tx.Tx) {
	t.Helper()
	wantOK(t, x.Begin(stamp))
	finish(t, s, thread, x)
	wantPhase(t, x, api.PhaseActive)
}

func readOf(t *testing.T, s *space.Space, thread, cell int, x *tx.Tx) {
	t.Helper()
	wantOK(t, x.Read(cell))
	finish(t, s, thread, x)
}

func commitOf(t *testing.T, s *space.Space, thread int, x *tx.Tx) {
	t.Helper()
	wantOK(t, x.Commit())
	finish(t, s, thread, x)
}

// write has a thread of its own come, write those cells and go.
func write(t *testing.T, s *space.Space, thread int, cells ...int) {
	t.Helper()
	x := begun(t, s, thread, 1)
	for _, cell := range cells {
		wantOK(t, x.Write(cell, int64(-1-cell)))
	}
	commitOf(t, s, thread, x)
	wantLast(t, x, api.OfCommit, api.OK, 0)
}

func wantOK(t *testing.T, e api.Errno) {
	t.Helper()
	if e != api.OK {
		t.Fatal(e)
	}
}

func wantPhase(t *testing.T, x *tx.Tx, want int) {
	t.Helper()
	if p := x.Phase(); p != want {
		t.Error("phase", p, "want", want)
	}
}

func wantLast(t *testing.T, x *tx.Tx, op int, e api.Errno, v int64) {
	t.Helper()
	if l := x.Last(); l != (api.Last{Op: op, E: e, X: v}) {
		t.Error("last", l, "want", op, e, v)
	}
}

func wantSlot(t *testing.T, x *tx.Tx, slot, gen int) {
	t.Helper()
	if s, g := x.Slot(); s != slot || g != gen {
		t.Error("slot", s, g, "want", slot, gen)
	}
}

func wantReads(t *testing.T, x *tx.Tx, want ...api.Pair) {
	t.Helper()
	if l := x.Reads(); !slices.Equal(l, want) {
		t.Error("reads", l, "want", want)
	}
}

func wantWrites(t *testing.T, x *tx.Tx, want ...api.Pair) {
	t.Helper()
	if l := x.Writes(); !slices.Equal(l, want) {
		t.Error("writes", l, "want", want)
	}
}

func wantDefers(t *testing.T, x *tx.Tx, want int) {
	t.Helper()
	if n := x.Defers(); n != want {
		t.Error("defers", n, "want", want)
	}
}

func wantView(t *testing.T, s *space.Space, want api.View) {
	t.Helper()
	v := s.View()
	if !slices.Equal(v.Cells, want.Cells) || v.Gate != want.Gate || !slices.Equal(v.Slots, want.Slots) {
		t.Error(v, "want", want)
	}
}

func wantLog(t *testing.T, s *space.Space, want []api.Access) {
	t.Helper()
	if l := s.Log(); !slices.Equal(l, want) {
		t.Error(l, "want", want)
	}
}

// wantEvents looks at those behind the first so many.
func wantEvents(t *testing.T, s *space.Space, from int, want ...api.Event) {
	t.Helper()
	if l := s.Events(); len(l) < from || !slices.Equal(l[from:], want) {
		t.Error(l, "want behind", from, want)
	}
}

// all is everything that a thread and its space tell.
type all struct {
	phase         int
	last          api.Last
	reads, writes []api.Pair
	slot, gen     int
	defers        int
	view          api.View
	log           []api.Access
	events        []api.Event
}

func allOf(s *space.Space, x *tx.Tx) all {
	a := all{
		phase: x.Phase(), last: x.Last(), reads: x.Reads(), writes: x.Writes(), defers: x.Defers(),
		view: s.View(), log: s.Log(), events: s.Events(),
	}
	a.slot, a.gen = x.Slot()
	return a
}

func wantAll(t *testing.T, s *space.Space, x *tx.Tx, want all) {
	t.Helper()
	wantPhase(t, x, want.phase)
	wantLast(t, x, want.last.Op, want.last.E, want.last.X)
	wantReads(t, x, want.reads...)
	wantWrites(t, x, want.writes...)
	wantSlot(t, x, want.slot, want.gen)
	wantDefers(t, x, want.defers)
	wantView(t, s, want.view)
	wantLog(t, s, want.log)
	wantEvents(t, s, 0, want.events...)
}

// The accesses of a thread.

func gateTrade(ok bool) api.Access {
	return api.Access{Kind: api.OnGate, Op: api.OpTrade, Ok: ok}
}

func gateLook() api.Access { return api.Access{Kind: api.OnGate, Op: api.OpLoad, Ok: true} }

func headLook(slot int) api.Access {
	return api.Access{Kind: api.OnHead, At: slot, Op: api.OpLoad, Ok: true}
}

func headTrade(slot int, ok bool) api.Access {
	return api.Access{Kind: api.OnHead, At: slot, Op: api.OpTrade, Ok: ok}
}

func wordLook(slot, word int) api.Access {
	return api.Access{Kind: api.OnWord, At: 2*slot + word, Op: api.OpLoad, Ok: true}
}

func put(slot, word int) api.Access {
	return api.Access{Kind: api.OnWord, At: 2*slot + word, Op: api.OpStore, Ok: true}
}

func load(cell int) api.Access {
	return api.Access{Kind: api.OnCell, At: cell, Op: api.OpLoad, Ok: true}
}

func store(cell int) api.Access {
	return api.Access{Kind: api.OnCell, At: cell, Op: api.OpStore, Ok: true}
}

// ownStep is a step of a thread: its access and its answer.
type ownStep struct {
	access api.Access
	answer int
}

func ran(l ...api.Access) []ownStep {
	steps := make([]ownStep, len(l))
	for i, a := range l {
		steps[i] = ownStep{a, api.Ran}
	}
	return steps
}

func wait(a api.Access) ownStep { return ownStep{a, api.Wait} }

// wantSteps goes on by those steps, each with its one access. All but the last one leave phase and last as they are, and note nothing.
func wantSteps(t *testing.T, s *space.Space, thread int, x *tx.Tx, steps ...ownStep) {
	t.Helper()
	phase, last, events := x.Phase(), x.Last(), s.Events()
	for i, want := range steps {
		s.Turn(thread)
		log := s.Log()
		if a := x.Step(); a != want.answer {
			t.Error("step", i, "answer", a, "want", want.answer)
		}
		want.access.Step, want.access.Thread = s.Step(), thread
		wantLog(t, s, append(log, want.access))
		if i < len(steps)-1 {
			wantPhase(t, x, phase)
			wantLast(t, x, last.Op, last.E, last.X)
			wantEvents(t, s, 0, events...)
		}
	}
}

// wantIdle asks whether steps answer Idle, and change nothing.
func wantIdle(t *testing.T, s *space.Space, x *tx.Tx) {
	t.Helper()
	before := allOf(s, x)
	for range 3 {
		if a := x.Step(); a != api.Idle {
			t.Error("answer", a)
		}
	}
	wantAll(t, s, x, before)
}

// orders are all ways to mix so many steps of each.
func orders(left []int) [][]int {
	var all [][]int
	for i := range left {
		if left[i] == 0 {
			continue
		}
		left[i]--
		for _, rest := range orders(left) {
			all = append(all, append([]int{i}, rest...))
		}
		left[i]++
	}
	if all == nil {
		return [][]int{nil}
	}
	return all
}
