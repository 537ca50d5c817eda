package tx_test

import (
	"math"
	"slices"
	"testing"

	"quash/api"
	"quash/space"
	"quash/tx"
)

// P14.1

func TestNewRefusesAThread(t *testing.T) {
	s := newSpace(t, wins(2))
	for _, thread := range []int{0, -1, 9, 10, 256, math.MinInt, math.MaxInt, 1<<32 + 1} {
		if x, e := tx.New(s, thread); x != nil || e != api.ErrArg {
			t.Error(thread, x, e)
		}
	}
	wantView(t, s, newSpace(t, wins(2)).View())
	wantLog(t, s, nil)
	wantEvents(t, s, 0)
}

func TestNewIsWithoutAnAttempt(t *testing.T) {
	for _, c := range []api.Config{wins(1), config(8, api.ReaderBias, 8, 64), config(2, api.Aging, 0, 0)} {
		s := newSpace(t, c)
		for thread := 1; thread <= 8; thread++ {
			x := newTx(t, s, thread)
			wantAll(t, s, x, all{view: newSpace(t, c).View()})
			wantIdle(t, s, x)
		}
	}
}

func TestNewMayBeAskedAtAnyMoment(t *testing.T) {
	s := newSpace(t, wins(2))
	s.Gate().Take(5)
	s.Slots().Claim(0, 4)
	view, log := s.View(), s.Log()
	x := newTx(t, s, 1)
	wantAll(t, s, x, all{view: view, log: log})
}

func TestEventsAreOfTheThread(t *testing.T) {
	for thread := 1; thread <= 8; thread++ {
		s := newSpace(t, wins(1))
		x := begun(t, s, thread, 6)
		wantEvents(t, s, 0, api.Event{Kind: api.EventBegin, Step: 4, Thread: thread, Stamp: 6})
		if h := s.Slots().Now()[0].Head; h.Thread != thread || h.Stamp != 6 {
			t.Error(thread, h)
		}
		wantOK(t, x.Write(0, 1))
		wantOK(t, x.Commit())
		goOn(t, s, thread, x, 1)
		if g := s.Gate().Now(); g.Owner != thread {
			t.Error(thread, g)
		}
	}
}

// P14.2

// situation is a thread that has come somewhere in a space of one slot.
type situation struct {
	name  string
	phase int
	reach func(t *testing.T, s *space.Space) *tx.Tx
}

func situations() []situation {
	return []situation{
		{"new", api.PhaseIdle, func(t *testing.T, s *space.Space) *tx.Tx { return newTx(t, s, 1) }},
		{"begins", api.PhaseBegin, func(t *testing.T, s *space.Space) *tx.Tx { return beginning(t, s, 0) }},
		{"has a slot", api.PhaseBegin, func(t *testing.T, s *space.Space) *tx.Tx { return beginning(t, s, 2) }},
		{"lives", api.PhaseActive, func(t *testing.T, s *space.Space) *tx.Tx { return begun(t, s, 1, 3) }},
		{"has done something", api.PhaseActive, worked},
		{"reads", api.PhaseRead, func(t *testing.T, s *space.Space) *tx.Tx { return reading(t, s, 0) }},
		{"has loaded", api.PhaseRead, func(t *testing.T, s *space.Space) *tx.Tx { return reading(t, s, 3) }},
		{"has read", api.PhaseActive, func(t *testing.T, s *space.Space) *tx.Tx { return reading(t, s, 7) }},
		{"leaves", api.PhaseCommit, leaving},
		{"commits", api.PhaseCommit, func(t *testing.T, s *space.Space) *tx.Tx { return committing(t, s, 0) }},
		{"has the gate", api.PhaseCommit, func(t *testing.T, s *space.Space) *tx.Tx { return committing(t, s, 2) }},
		{"has won", api.PhaseCommit, func(t *testing.T, s *space.Space) *tx.Tx { return committing(t, s, 4) }},
		{"has committed", api.PhaseIdle, func(t *testing.T, s *space.Space) *tx.Tx { return committing(t, s, 5) }},
		{"aborts", api.PhaseAbort, func(t *testing.T, s *space.Space) *tx.Tx { return aborting(t, s, 0) }},
		{"has aborted", api.PhaseIdle, func(t *testing.T, s *space.Space) *tx.Tx { return aborting(t, s, 1) }},
		{"was doomed", api.PhaseAbort, func(t *testing.T, s *space.Space) *tx.Tx { return doomed(t, s, 7) }},
		{"is gone", api.PhaseIdle, func(t *testing.T, s *space.Space) *tx.Tx { return doomed(t, s, 8) }},
		{"found no slot", api.PhaseIdle, slotless},
	}
}

func beginning(t *testing.T, s *space.Space, steps int) *tx.Tx {
	x := newTx(t, s, 1)
	wantOK(t, x.Begin(3))
	goOn(t, s, 1, x, steps)
	return x
}

func worked(t *testing.T, s *space.Space) *tx.Tx {
	x := begun(t, s, 1, 3)
	readOf(t, s, 1, 4, x)
	wantOK(t, x.Write(2, 8))
	readOf(t, s, 1, 5, x)
	return x
}

func reading(t *testing.T, s *space.Space, steps int) *tx.Tx {
	x := begun(t, s, 1, 3)
	wantOK(t, x.Read(0))
	goOn(t, s, 1, x, steps)
	return x
}

func leaving(t *testing.T, s *space.Space) *tx.Tx {
	x := begun(t, s, 1, 3)
	wantOK(t, x.Commit())
	return x
}

func committing(t *testing.T, s *space.Space, steps int) *tx.Tx {
	x := begun(t, s, 1, 3)
	wantOK(t, x.Write(2, 8))
	wantOK(t, x.Commit())
	goOn(t, s, 1, x, steps)
	return x
}

func aborting(t *testing.T, s *space.Space, steps int) *tx.Tx {
	x := begun(t, s, 1, 3)
	wantOK(t, x.Abort(api.ErrMany))
	goOn(t, s, 1, x, steps)
	return x
}

func doomed(t *testing.T, s *space.Space, steps int) *tx.Tx {
	x := begun(t, s, 1, 3)
	s.Slots().Doom(0, 1, 6)
	wantOK(t, x.Read(0))
	goOn(t, s, 1, x, steps)
	return x
}

func slotless(t *testing.T, s *space.Space) *tx.Tx {
	s.Slots().Claim(0, 7)
	return beginning(t, s, 1)
}

// order is a call that begins an operation: the phase that it is for, what it answers there, the phase behind it.
type order struct {
	name   string
	call   func(x *tx.Tx) api.Errno
	phase  int
	want   api.Errno
	behind int
}

func callsOfFive() []order {
	var l []order
	for stamp, want := range map[int]api.Errno{
		1: api.OK, 2: api.OK, 3: api.OK, math.MaxInt: api.OK,
		0: api.ErrArg, -1: api.ErrArg, math.MinInt: api.ErrArg, -1 << 32: api.ErrArg,
	} {
		l = append(l, order{"begin", func(x *tx.Tx) api.Errno { return x.Begin(stamp) }, api.PhaseIdle, want, api.PhaseBegin})
	}
	for cell, want := range map[int]api.Errno{
		0: api.OK, 1: api.OK, 19: api.OK,
		-1: api.ErrPlace, 20: api.ErrPlace, 255: api.ErrPlace, 256: api.ErrPlace, math.MaxInt: api.ErrPlace, math.MinInt: api.ErrPlace, 1 << 32: api.ErrPlace,
	} {
		l = append(l,
			order{"read", func(x *tx.Tx) api.Errno { return x.Read(cell) }, api.PhaseActive, want, api.PhaseRead},
			order{"write", func(x *tx.Tx) api.Errno { return x.Write(cell, 77) }, api.PhaseActive, want, api.PhaseActive})
	}
	for why, want := range map[api.Errno]api.Errno{
		api.OK: api.ErrArg, api.ErrArg: api.OK, api.ErrDoomed: api.OK, api.ErrProgAbort: api.OK, -1: api.OK, math.MaxInt: api.OK, math.MinInt: api.OK,
	} {
		l = append(l, order{"abort", func(x *tx.Tx) api.Errno { return x.Abort(why) }, api.PhaseActive, want, api.PhaseAbort})
	}
	return append(l, order{"commit", (*tx.Tx).Commit, api.PhaseActive, api.OK, api.PhaseCommit})
}

// What is refused changes nothing; what is taken makes no access.
func TestCallsInEverySituation(t *testing.T) {
	for _, at := range situations() {
		for _, o := range callsOfFive() {
			s := newSpace(t, wins(1))
			x := at.reach(t, s)
			wantPhase(t, x, at.phase)
			want := o.want
			if at.phase != o.phase {
				want = api.ErrState
			}
			before := allOf(s, x)
			if e := o.call(x); e != want {
				t.Error(at.name, o.name, e, "want", want)
			}
			if want != api.OK {
				wantAll(t, s, x, before)
				continue
			}
			wantPhase(t, x, o.behind)
			wantLog(t, s, before.log)
			wantView(t, s, before.view)
		}
	}
}

func TestRefusedCallsHaveNoSequel(t *testing.T) {
	for _, at := range situations() {
		one, other := newSpace(t, wins(1)), newSpace(t, wins(1))
		x, y := at.reach(t, one), at.reach(t, other)
		for range 12 {
			for _, o := range callsOfFive() {
				if x.Phase() != o.phase || o.want != api.OK {
					o.call(x)
				}
			}
			one.Turn(1)
			other.Turn(1)
			if a, b := x.Step(), y.Step(); a != b {
				t.Error(at.name, a, b)
			}
			wantAll(t, one, x, allOf(other, y))
		}
	}
}

func TestBeginForgetsReadsAndWrites(t *testing.T) {
	s := newSpace(t, wins(1))
	x := begun(t, s, 1, 3)
	readOf(t, s, 1, 0, x)
	wantOK(t, x.Write(2, 8))
	commitOf(t, s, 1, x)
	wantReads(t, x, api.Pair{Cell: 0, X: 1000})
	wantWrites(t, x, api.Pair{Cell: 2, X: 8})
	last := x.Last()
	wantOK(t, x.Begin(3))
	wantReads(t, x)
	wantWrites(t, x)
	// Nothing has ended, and nobody has come to live.
	wantLast(t, x, last.Op, last.E, last.X)
	wantSlot(t, x, 0, 1)
	goOn(t, s, 1, x, 4)
	wantSlot(t, x, 0, 2)
	// What the last one wrote is not this one's: it is read, and its bits are published anew.
	wantOK(t, x.Read(0))
	wantPhase(t, x, api.PhaseRead)
	wantSteps(t, s, 1, x, ran(put(0, 0), put(0, 1), load(0), gateLook(), load(0), gateLook(), headLook(0))...)
	wantOK(t, x.Read(2))
	wantPhase(t, x, api.PhaseRead)
}

func TestAttemptsHaveNothingOfOnesAhead(t *testing.T) {
	s := newSpace(t, wins(1))
	x := begun(t, s, 1, 3)
	for cell := range 16 {
		wantOK(t, x.Write(cell, 1))
	}
	wantOK(t, x.Abort(api.ErrMany))
	finish(t, s, 1, x)
	// The next one has room for all its writes, and reads from the beginning on.
	beginOf(t, s, 1, 3, x)
	for cell := range 16 {
		wantOK(t, x.Write(19-cell, 1))
	}
	if e := x.Write(0, 1); e != api.ErrWrites {
		t.Error(e)
	}
	wantOK(t, x.Abort(api.ErrMany))
	finish(t, s, 1, x)
	beginOf(t, s, 1, 3, x)
	commitOf(t, s, 1, x)
	if l := s.Events(); l[len(l)-1] != (api.Event{Kind: api.EventCommit, Step: s.Step(), Thread: 1, Stamp: 3, Gate: 1}) {
		t.Error(l[len(l)-1])
	}
}

// deferred is a thread in slot 1 whose transaction of that stamp was deferred once, and a reader in slot 0 that stays.
func deferred(t *testing.T, stamp int) (*space.Space, *tx.Tx) {
	t.Helper()
	s := newSpace(t, config(2, api.ReaderBias, 0, 5))
	r := begun(t, s, 8, 1)
	readOf(t, s, 8, 0, r)
	x := newTx(t, s, 1)
	defer1(t, s, stamp, x)
	wantDefers(t, x, 1)
	return s, x
}

func defer1(t *testing.T, s *space.Space, stamp int, x *tx.Tx) {
	t.Helper()
	beginOf(t, s, 1, stamp, x)
	wantOK(t, x.Write(0, 7))
	commitOf(t, s, 1, x)
	wantLast(t, x, api.OfCommit, api.ErrDefer, 0)
}

func TestBeginOfAnotherStampResetsTheJudge(t *testing.T) {
	for _, stamp := range []int{1, 4, 6, math.MaxInt} {
		s, x := deferred(t, 5)
		wantOK(t, x.Begin(stamp))
		wantDefers(t, x, 0)
		finish(t, s, 1, x)
		wantDefers(t, x, 0)
		wantOK(t, x.Abort(api.ErrMany))
		finish(t, s, 1, x)
		// The Begin ahead is that of the other stamp now.
		defer1(t, s, stamp, x)
		wantDefers(t, x, 1)
		wantOK(t, x.Begin(5))
		wantDefers(t, x, 0)
	}
}

func TestBeginOfTheSameStampGoesOnCounting(t *testing.T) {
	s, x := deferred(t, 5)
	for n := 2; n <= 5; n++ {
		wantOK(t, x.Begin(5))
		wantDefers(t, x, n-1)
		finish(t, s, 1, x)
		wantOK(t, x.Write(0, 7))
		commitOf(t, s, 1, x)
		wantLast(t, x, api.OfCommit, api.ErrDefer, 0)
		wantDefers(t, x, n)
	}
	// It was deferred often enough.
	beginOf(t, s, 1, 5, x)
	wantOK(t, x.Write(0, 7))
	commitOf(t, s, 1, x)
	wantLast(t, x, api.OfCommit, api.OK, 0)
	wantDefers(t, x, 5)
	// That it has committed does not count, the stamp does.
	wantOK(t, x.Begin(5))
	wantDefers(t, x, 5)
}

func TestBeginsThatWereRefusedDoNotCount(t *testing.T) {
	s, x := deferred(t, 5)
	for _, stamp := range []int{0, -1, math.MinInt} {
		if e := x.Begin(stamp); e != api.ErrArg {
			t.Error(e)
		}
		wantDefers(t, x, 1)
	}
	wantOK(t, x.Begin(5))
	wantDefers(t, x, 1)
	for range 5 {
		if e := x.Begin(6); e != api.ErrState {
			t.Error(e)
		}
		goOn(t, s, 1, x, 1)
		wantDefers(t, x, 1)
	}
	wantOK(t, x.Abort(api.ErrMany))
	finish(t, s, 1, x)
	wantOK(t, x.Begin(5))
	wantDefers(t, x, 1)
}

// One that found no slot was OK all the same.
func TestBeginsThatFoundNoSlotCount(t *testing.T) {
	s, x := deferred(t, 5)
	s.Slots().Claim(1, 7)
	gen := s.Slots().Now()[1].Head.Gen
	wantOK(t, x.Begin(5))
	finish(t, s, 1, x)
	wantLast(t, x, api.OfBegin, api.ErrSlots, 0)
	wantDefers(t, x, 1)
	wantOK(t, x.Begin(6))
	wantDefers(t, x, 0)
	finish(t, s, 1, x)
	s.Slots().Free(1, gen)
	defer1(t, s, 6, x)
	wantDefers(t, x, 1)
}

func TestReadOfAnOwnWrite(t *testing.T) {
	s := newSpace(t, wins(1))
	x := begun(t, s, 1, 3)
	for i, v := range []int64{9, 0, -1, math.MinInt64, math.MaxInt64} {
		wantOK(t, x.Write(7, v))
		log, view, events := s.Log(), s.View(), len(s.Events())
		for range 2 {
			wantOK(t, x.Read(7))
			wantPhase(t, x, api.PhaseActive)
			wantLast(t, x, api.OfRead, api.OK, v)
		}
		e := api.Event{Kind: api.EventRead, Step: 4, Thread: 1, Stamp: 3, Cell: 7, X: v, Own: true}
		wantEvents(t, s, events, e, e)
		wantLog(t, s, log)
		wantView(t, s, view)
		wantReads(t, x)
		wantIdle(t, s, x)
		if i == 2 {
			// Another cell's read goes its way.
			readOf(t, s, 1, 8, x)
			wantLast(t, x, api.OfRead, api.OK, 1008)
			x.Abort(api.ErrMany)
			finish(t, s, 1, x)
			s = newSpace(t, wins(1))
			x = begun(t, s, 1, 3)
		}
	}
}

// A doomed one is told by a read of a cell, not by one of its own writes.
func TestReadOfAnOwnWriteAsksNobody(t *testing.T) {
	s := newSpace(t, wins(1))
	x := begun(t, s, 1, 3)
	wantOK(t, x.Write(7, 5))
	s.Slots().Doom(0, 1, 2)
	s.Gate().Take(2)
	wantOK(t, x.Read(7))
	wantLast(t, x, api.OfRead, api.OK, 5)
	wantPhase(t, x, api.PhaseActive)
}

func TestReadAheadOfAWriteIsNotItsOwn(t *testing.T) {
	s := newSpace(t, wins(1))
	x := begun(t, s, 1, 3)
	readOf(t, s, 1, 7, x)
	wantOK(t, x.Write(7, 5))
	wantReads(t, x, api.Pair{Cell: 7, X: 1007})
	wantOK(t, x.Read(7))
	wantLast(t, x, api.OfRead, api.OK, 5)
	wantReads(t, x, api.Pair{Cell: 7, X: 1007})
}

func TestWriteIsKeptByTheAttempt(t *testing.T) {
	s := newSpace(t, wins(1))
	x := begun(t, s, 1, 3)
	log, view := s.Log(), s.View()
	s.Turn(1)
	for i, v := range []int64{9, 0, -1, math.MinInt64, math.MaxInt64} {
		wantOK(t, x.Write(19-i, v))
		wantLast(t, x, api.OfWrite, api.OK, v)
		wantPhase(t, x, api.PhaseActive)
		wantEvents(t, s, 1+i, api.Event{Kind: api.EventWrite, Step: 5, Thread: 1, Stamp: 3, Cell: 19 - i, X: v})
	}
	wantLog(t, s, log)
	wantView(t, s, view)
	wantIdle(t, s, x)
}

func TestWriteBeyondMaxWrites(t *testing.T) {
	s := newSpace(t, wins(1))
	x := begun(t, s, 1, 3)
	var want []api.Pair
	for i := range 16 {
		cell := (i*7 + 3) % 20
		wantOK(t, x.Write(cell, int64(i)))
		want = append(want, api.Pair{Cell: cell, X: int64(i)})
	}
	wantWrites(t, x, want...)
	before := allOf(s, x)
	for cell := range 20 {
		if slices.ContainsFunc(want, func(p api.Pair) bool { return p.Cell == cell }) {
			continue
		}
		if e := x.Write(cell, 1); e != api.ErrWrites {
			t.Error(cell, e)
		}
	}
	// That there is no such cell is named first.
	for _, cell := range []int{-1, 20} {
		if e := x.Write(cell, 1); e != api.ErrPlace {
			t.Error(cell, e)
		}
	}
	wantAll(t, s, x, before)
	// A cell that is one of the sixteen is written again, and keeps its place.
	for i := range want {
		want[i].X = int64(100 + i)
		wantOK(t, x.Write(want[i].Cell, want[i].X))
	}
	wantWrites(t, x, want...)
	commitOf(t, s, 1, x)
	cells := s.View().Cells
	for cell := range cells {
		w := int64(1000 + cell)
		for _, p := range want {
			if p.Cell == cell {
				w = p.X
			}
		}
		if cells[cell] != w {
			t.Error(cell, cells[cell], w)
		}
	}
}

func TestCellsAtTheEdges(t *testing.T) {
	for _, cells := range []int{1, 2, 255, 256} {
		c := wins(1)
		c.Cells = cells
		s := newSpace(t, c)
		x := begun(t, s, 1, 3)
		readOf(t, s, 1, cells-1, x)
		wantLast(t, x, api.OfRead, api.OK, int64(999+cells))
		wantOK(t, x.Write(cells-1, 5))
		before := allOf(s, x)
		for _, cell := range []int{-1, cells, cells + 1, math.MaxInt, math.MinInt} {
			if e := x.Read(cell); e != api.ErrPlace {
				t.Error(cells, cell, e)
			}
			if e := x.Write(cell, 0); e != api.ErrPlace {
				t.Error(cells, cell, e)
			}
		}
		wantAll(t, s, x, before)
	}
}

// P14.3: PhaseBegin

func TestBeginStepByStep(t *testing.T) {
	for held := range 4 {
		s := newSpace(t, wins(4))
		for slot := range held {
			s.Slots().Claim(slot, 8)
		}
		x := newTx(t, s, 2)
		wantOK(t, x.Begin(9))
		wantPhase(t, x, api.PhaseBegin)
		wantLast(t, x, api.OfNothing, api.OK, 0)
		for slot := range held {
			wantSteps(t, s, 2, x, ran(headTrade(slot, false))...)
			wantPhase(t, x, api.PhaseBegin)
			wantSlot(t, x, 0, 0)
		}
		wantSteps(t, s, 2, x, ran(headTrade(held, true), put(held, 0), put(held, 1), headTrade(held, true))...)
		wantPhase(t, x, api.PhaseActive)
		wantLast(t, x, api.OfBegin, api.OK, 0)
		wantSlot(t, x, held, 1)
		wantEvents(t, s, 0, api.Event{Kind: api.EventBegin, Step: held + 4, Thread: 2, Stamp: 9})
		if h := s.Slots().Now()[held].Head; h != (api.Head{Gen: 1, State: api.Live, Stamp: 9, Thread: 2}) {
			t.Error(h)
		}
		wantIdle(t, s, x)
	}
}

// The gate's number counts as it is in the last step; it is not asked for by an access.
func TestBeginTellsTheGateOfItsLastStep(t *testing.T) {
	for at := range 4 {
		s := newSpace(t, wins(1))
		x := newTx(t, s, 2)
		wantOK(t, x.Begin(9))
		goOn(t, s, 2, x, at)
		for range 3 {
			s.Gate().Take(5)
			s.Gate().Give(5)
		}
		s.Gate().Take(5)
		goOn(t, s, 2, x, 4-at)
		wantEvents(t, s, 0, api.Event{Kind: api.EventBegin, Step: 4, Thread: 2, Stamp: 9, Gate: 7})
		s.Gate().Give(5)
		wantEvents(t, s, 0, api.Event{Kind: api.EventBegin, Step: 4, Thread: 2, Stamp: 9, Gate: 7})
	}
}

func TestBeginWithoutASlot(t *testing.T) {
	for n := 1; n <= 8; n++ {
		s := newSpace(t, wins(n))
		for slot := range n {
			s.Slots().Claim(slot, 8)
		}
		for range 3 {
			s.Gate().Take(5)
			s.Gate().Give(5)
		}
		s.Gate().Take(5)
		x := newTx(t, s, 2)
		for again := range 3 {
			wantOK(t, x.Begin(9))
			for slot := range n {
				wantPhase(t, x, api.PhaseBegin)
				wantSteps(t, s, 2, x, ran(headTrade(slot, false))...)
			}
			wantPhase(t, x, api.PhaseIdle)
			wantLast(t, x, api.OfBegin, api.ErrSlots, 0)
			wantSlot(t, x, 0, 0)
			wantEvents(t, s, again, api.Event{Kind: api.EventSlots, Step: (again + 1) * n, Thread: 2, Stamp: 9, Gate: 7, E: api.ErrSlots})
			wantIdle(t, s, x)
		}
		s.Slots().Free(n-1, 1)
		wantOK(t, x.Begin(9))
		goOn(t, s, 2, x, n+3)
		wantSlot(t, x, n-1, 2)
		wantLast(t, x, api.OfBegin, api.OK, 0)
	}
}

// Somebody has freed its slot ahead of the last step.
func TestBeginWhoseSlotIsFreed(t *testing.T) {
	for at := 1; at < 4; at++ {
		s := newSpace(t, wins(1))
		x := newTx(t, s, 2)
		wantOK(t, x.Begin(9))
		goOn(t, s, 2, x, at)
		s.Slots().Free(0, 1)
		goOn(t, s, 2, x, 4-at)
		wantPhase(t, x, api.PhaseIdle)
		wantLast(t, x, api.OfBegin, api.ErrState, 0)
		wantSlot(t, x, 0, 0)
		wantEvents(t, s, 0)
		wantIdle(t, s, x)
		beginOf(t, s, 2, 9, x)
		wantSlot(t, x, 0, 2)
	}
}

// P14.3: PhaseRead

func TestReadStepByStep(t *testing.T) {
	s := newSpace(t, wins(1))
	x := begun(t, s, 2, 9)
	wantOK(t, x.Read(0))
	wantPhase(t, x, api.PhaseRead)
	wantSteps(t, s, 2, x, ran(put(0, 0), put(0, 1), load(0), gateLook(), load(0), gateLook(), headLook(0))...)
	wantPhase(t, x, api.PhaseActive)
	wantLast(t, x, api.OfRead, api.OK, 1000)
	wantReads(t, x, api.Pair{Cell: 0, X: 1000})
	wantEvents(t, s, 1, api.Event{Kind: api.EventRead, Step: 11, Thread: 2, Stamp: 9, Cell: 0, X: 1000})
	wantIdle(t, s, x)
	// The next one goes out from there: the bits are published, the gate was seen.
	wantOK(t, x.Read(0))
	wantSteps(t, s, 2, x, ran(load(0), gateLook(), headLook(0))...)
	wantReads(t, x, api.Pair{Cell: 0, X: 1000}, api.Pair{Cell: 0, X: 1000})
	wantEvents(t, s, 2, api.Event{Kind: api.EventRead, Step: 14, Thread: 2, Stamp: 9, Cell: 0, X: 1000})
	// A read of an own write between does not change what is seen and published.
	wantOK(t, x.Write(5, 3))
	wantOK(t, x.Read(5))
	wantOK(t, x.Read(0))
	wantSteps(t, s, 2, x, ran(load(0), gateLook(), headLook(0))...)
	wantPhase(t, x, api.PhaseActive)
}

func TestReadWaitsForTheGate(t *testing.T) {
	s := newSpace(t, wins(2))
	x := begun(t, s, 2, 9)
	wantOK(t, x.Read(0))
	wantSteps(t, s, 2, x, ran(put(0, 0), put(0, 1), load(0))...)
	s.Gate().Take(5)
	for range 3 {
		wantSteps(t, s, 2, x, wait(gateLook()))
		wantPhase(t, x, api.PhaseRead)
		wantLast(t, x, api.OfBegin, api.OK, 0)
	}
	s.Store(0, 44)
	s.Gate().Give(5)
	wantSteps(t, s, 2, x, ran(gateLook(), load(0), gateLook(), headLook(0))...)
	wantLast(t, x, api.OfRead, api.OK, 44)
	wantEvents(t, s, 1, api.Event{Kind: api.EventRead, Step: 14, Thread: 2, Stamp: 9, Cell: 0, X: 44, Gate: 2})
	// Of another cell, the gate being what was seen last.
	wantOK(t, x.Read(3))
	finish(t, s, 2, x)
	e := s.Events()[2]
	if e != (api.Event{Kind: api.EventRead, Step: s.Step(), Thread: 2, Stamp: 9, Cell: 3, X: 1003, Gate: 2}) {
		t.Error(e)
	}
	wantReads(t, x, api.Pair{Cell: 0, X: 44}, api.Pair{Cell: 3, X: 1003})
}

func TestReadOfADoomedOne(t *testing.T) {
	for by := 1; by <= 8; by++ {
		for at := range 7 {
			s := newSpace(t, wins(2))
			x := begun(t, s, 2, 9)
			readOf(t, s, 2, 4, x)
			last, events := x.Last(), s.Events()
			wantOK(t, x.Read(6))
			steps := 0
			for x.Phase() == api.PhaseRead && steps < 20 {
				if steps == min(at, 3) {
					s.Slots().Doom(0, 1, by)
				}
				goOn(t, s, 2, x, 1)
				steps++
			}
			// The read has not ended yet: that it does is the next step's.
			wantPhase(t, x, api.PhaseAbort)
			wantLast(t, x, last.Op, last.E, last.X)
			wantEvents(t, s, 0, events...)
			wantSteps(t, s, 2, x, ran(headTrade(0, true))...)
			wantPhase(t, x, api.PhaseIdle)
			wantLast(t, x, api.OfRead, api.ErrDoomed, 0)
			wantEvents(t, s, 2, api.Event{Kind: api.EventAbort, Step: s.Step(), Thread: 2, Stamp: 9, E: api.ErrDoomed, By: by})
			wantReads(t, x, api.Pair{Cell: 4, X: 1004})
			wantSlot(t, x, 0, 1)
			if h := s.Slots().Now()[0].Head; h != (api.Head{Gen: 1}) {
				t.Error(h)
			}
			wantIdle(t, s, x)
		}
	}
}

// Who doomed it is asked ahead of the step that frees the slot, not ahead of the read's last one.
func TestByIsAskedAheadOfTheLastStep(t *testing.T) {
	s := newSpace(t, wins(2))
	x := begun(t, s, 2, 9)
	s.Slots().Free(0, 1)
	readOfSlotThatIsGone(t, s, x)
	wantSteps(t, s, 2, x, ran(headTrade(0, false))...)
	wantLast(t, x, api.OfRead, api.ErrDoomed, 0)
	wantEvents(t, s, 1, api.Event{Kind: api.EventAbort, Step: s.Step(), Thread: 2, Stamp: 9, E: api.ErrDoomed})
	// The slot is another one's by now, and that one was doomed.
	s = newSpace(t, wins(2))
	x = begun(t, s, 2, 9)
	s.Slots().Free(0, 1)
	readOfSlotThatIsGone(t, s, x)
	s.Slots().Claim(0, 7)
	s.Slots().Ready(0, 2, 4)
	s.Slots().Doom(0, 2, 6)
	wantSteps(t, s, 2, x, ran(headTrade(0, false))...)
	wantPhase(t, x, api.PhaseIdle)
	wantEvents(t, s, 1, api.Event{Kind: api.EventAbort, Step: s.Step(), Thread: 2, Stamp: 9, E: api.ErrDoomed, By: 6})
	if h := s.Slots().Now()[0].Head; !h.Doomed || h.Gen != 2 {
		t.Error(h)
	}
}

func readOfSlotThatIsGone(t *testing.T, s *space.Space, x *tx.Tx) {
	t.Helper()
	wantOK(t, x.Read(0))
	for range 7 {
		goOn(t, s, 2, x, 1)
	}
	wantPhase(t, x, api.PhaseAbort)
}

// P14.3: PhaseCommit, nothing written

func TestCommitOfAReaderIsOneStep(t *testing.T) {
	for reads := range 3 {
		for gates := range 3 {
			s := newSpace(t, wins(2))
			x := begun(t, s, 2, 9)
			for range gates {
				s.Gate().Take(5)
				s.Gate().Give(5)
			}
			for cell := range reads {
				readOf(t, s, 2, cell, x)
			}
			// What comes behind its last read does not count.
			s.Gate().Take(5)
			wantOK(t, x.Commit())
			wantPhase(t, x, api.PhaseCommit)
			events := len(s.Events())
			wantSteps(t, s, 2, x, ran(headTrade(0, true))...)
			wantPhase(t, x, api.PhaseIdle)
			wantLast(t, x, api.OfCommit, api.OK, 0)
			want := api.Event{Kind: api.EventCommit, Step: s.Step(), Thread: 2, Stamp: 9, Gate: 2 * gates}
			if reads == 0 {
				want.Gate = 1
			}
			wantEvents(t, s, events, want)
			wantIdle(t, s, x)
			if g := s.Gate().Now().Number; g != 2*gates+1 {
				t.Error(g)
			}
		}
	}
}

// Doomed or not: nothing is asked.
func TestCommitOfADoomedReader(t *testing.T) {
	s := newSpace(t, wins(2))
	x := begun(t, s, 2, 9)
	readOf(t, s, 2, 0, x)
	s.Slots().Doom(0, 1, 5)
	wantOK(t, x.Commit())
	wantSteps(t, s, 2, x, ran(headTrade(0, true))...)
	wantLast(t, x, api.OfCommit, api.OK, 0)
	wantEvents(t, s, 2, api.Event{Kind: api.EventCommit, Step: s.Step(), Thread: 2, Stamp: 9})
	// Not even that its slot is gone.
	beginOf(t, s, 2, 9, x)
	s.Slots().Free(0, 2)
	wantOK(t, x.Commit())
	wantSteps(t, s, 2, x, ran(headTrade(0, false))...)
	wantLast(t, x, api.OfCommit, api.OK, 0)
	wantEvents(t, s, 4, api.Event{Kind: api.EventCommit, Step: s.Step(), Thread: 2, Stamp: 9, Gate: 1})
}

// P14.3: PhaseCommit, something written

func TestCommitStepByStep(t *testing.T) {
	s := newSpace(t, wins(2))
	for range 2 {
		s.Gate().Take(5)
		s.Gate().Give(5)
	}
	x := begun(t, s, 2, 9)
	readOf(t, s, 2, 3, x)
	// In the order in which the cells were first written.
	for _, p := range []api.Pair{{Cell: 7, X: 70}, {Cell: 2, X: 20}, {Cell: 5, X: 50}, {Cell: 7, X: 71}} {
		wantOK(t, x.Write(p.Cell, p.X))
	}
	wantOK(t, x.Commit())
	wantPhase(t, x, api.PhaseCommit)
	wantLast(t, x, api.OfWrite, api.OK, 71)
	events := len(s.Events())
	wantSteps(t, s, 2, x, ran(gateTrade(true), headLook(0), headLook(1), store(7), store(2), store(5))...)
	wantPhase(t, x, api.PhaseCommit)
	wantEvents(t, s, events)
	// It counts from the step on in which it gives the gate back; its end is one step further.
	wantSteps(t, s, 2, x, ran(gateTrade(true))...)
	want := api.Event{Kind: api.EventCommit, Step: s.Step(), Thread: 2, Stamp: 9, Gate: 5}
	wantEvents(t, s, events, want)
	wantPhase(t, x, api.PhaseCommit)
	wantLast(t, x, api.OfWrite, api.OK, 71)
	wantSteps(t, s, 2, x, ran(headTrade(0, true))...)
	wantEvents(t, s, events, want)
	wantPhase(t, x, api.PhaseIdle)
	wantLast(t, x, api.OfCommit, api.OK, 0)
	wantReads(t, x, api.Pair{Cell: 3, X: 1003})
	wantWrites(t, x, api.Pair{Cell: 7, X: 71}, api.Pair{Cell: 2, X: 20}, api.Pair{Cell: 5, X: 50})
	v := s.View()
	if v.Cells[7] != 71 || v.Cells[2] != 20 || v.Cells[5] != 50 || v.Gate != (api.Gate{Number: 6}) {
		t.Error(v)
	}
	wantIdle(t, s, x)
}

func TestCommitWaitsForTheGate(t *testing.T) {
	s := newSpace(t, wins(1))
	x := begun(t, s, 2, 9)
	wantOK(t, x.Write(0, 1))
	wantOK(t, x.Commit())
	s.Gate().Take(5)
	for range 3 {
		wantSteps(t, s, 2, x, wait(gateTrade(false)))
		wantPhase(t, x, api.PhaseCommit)
	}
	s.Gate().Give(5)
	wantSteps(t, s, 2, x, ran(gateTrade(true), headLook(0), store(0), gateTrade(true))...)
	wantEvents(t, s, 2, api.Event{Kind: api.EventCommit, Step: s.Step(), Thread: 2, Stamp: 9, Gate: 3})
}

func TestCommitOfADoomedWriter(t *testing.T) {
	for by := 1; by <= 8; by++ {
		s := newSpace(t, wins(2))
		x := begun(t, s, 2, 9)
		wantOK(t, x.Write(0, 1))
		s.Slots().Doom(0, 1, by)
		wantOK(t, x.Commit())
		wantSteps(t, s, 2, x, ran(gateTrade(true), headLook(0), gateTrade(true), headTrade(0, true))...)
		wantPhase(t, x, api.PhaseIdle)
		wantLast(t, x, api.OfCommit, api.ErrDoomed, 0)
		wantEvents(t, s, 2, api.Event{Kind: api.EventAbort, Step: s.Step(), Thread: 2, Stamp: 9, E: api.ErrDoomed, By: by})
		if v := s.View(); v.Cells[0] != 1000 || v.Gate != (api.Gate{Number: 2}) {
			t.Error(v)
		}
		wantIdle(t, s, x)
	}
}

func TestCommitByPolicies(t *testing.T) {
	looks := []api.Access{gateTrade(true), headLook(1), headLook(0), wordLook(0, 0), wordLook(0, 1)}
	wins := []api.Access{headTrade(0, true), store(0), gateTrade(true)}
	for _, p := range []struct {
		tag, stamp int
		want       api.Errno
	}{
		{api.CommitWins, 9, api.OK}, {api.ReaderBias, 9, api.ErrDefer}, {api.ReaderBias, 1, api.ErrDefer},
		{api.Aging, 9, api.ErrYield}, {api.Aging, 5, api.OK}, {api.Aging, 4, api.OK},
	} {
		s := newSpace(t, config(2, p.tag, 0, 1))
		r := begun(t, s, 7, 5)
		readOf(t, s, 7, 0, r)
		x := begun(t, s, 2, p.stamp)
		wantOK(t, x.Write(0, 1))
		wantOK(t, x.Commit())
		wantSteps(t, s, 2, x, ran(looks...)...)
		events := len(s.Events())
		end := api.Event{Kind: api.EventAbort, Thread: 2, Stamp: p.stamp, E: p.want}
		switch p.want {
		case api.OK:
			wantSteps(t, s, 2, x, ran(wins...)...)
			end = api.Event{Kind: api.EventCommit, Thread: 2, Stamp: p.stamp, Gate: 1, Step: s.Step()}
			wantSteps(t, s, 2, x, ran(headTrade(1, true))...)
		case api.ErrDefer:
			wantSteps(t, s, 2, x, wait(gateTrade(true)))
			wantPhase(t, x, api.PhaseCommit)
			wantSteps(t, s, 2, x, ran(headTrade(1, true))...)
			end.Step = s.Step()
			wantDefers(t, x, 1)
		default:
			wantSteps(t, s, 2, x, ran(gateTrade(true), headTrade(1, true))...)
			end.Step = s.Step()
		}
		wantPhase(t, x, api.PhaseIdle)
		wantLast(t, x, api.OfCommit, p.want, 0)
		wantEvents(t, s, events, end)
		if h := s.Slots().Now()[0].Head; h.Doomed != (p.want == api.OK) {
			t.Error(p, h)
		}
	}
}

// By is 0, where the end is another one than ErrDoomed, doomed or not.
func TestByOfAnAbortThatIsNotByDoom(t *testing.T) {
	for _, tag := range []int{api.ReaderBias, api.Aging} {
		s := newSpace(t, config(2, tag, 0, 1))
		r := begun(t, s, 7, 5)
		readOf(t, s, 7, 0, r)
		x := begun(t, s, 2, 9)
		wantOK(t, x.Write(0, 1))
		wantOK(t, x.Commit())
		for range 5 {
			goOn(t, s, 2, x, 1)
		}
		s.Slots().Doom(1, 1, 6)
		finish(t, s, 2, x)
		l := s.Events()
		if e := l[len(l)-1]; e.Kind != api.EventAbort || e.E == api.ErrDoomed || e.By != 0 {
			t.Error(e)
		}
	}
}

// P14.3: PhaseAbort

func TestAbortByItsOwnWord(t *testing.T) {
	for _, why := range []api.Errno{api.ErrArg, api.ErrMany, api.ErrYield, api.ErrDefer, api.ErrWrites, api.ErrProgAbort, -1, math.MaxInt} {
		for _, isDoomed := range []bool{false, true} {
			s := newSpace(t, wins(2))
			x := worked(t, s)
			if isDoomed {
				s.Slots().Doom(0, 1, 6)
			}
			view, last, events := s.View(), x.Last(), len(s.Events())
			wantOK(t, x.Abort(why))
			wantPhase(t, x, api.PhaseAbort)
			wantLast(t, x, last.Op, last.E, last.X)
			wantSteps(t, s, 1, x, ran(headTrade(0, true))...)
			wantPhase(t, x, api.PhaseIdle)
			wantLast(t, x, api.OfAbort, why, 0)
			wantEvents(t, s, events, api.Event{Kind: api.EventAbort, Step: s.Step(), Thread: 1, Stamp: 3, E: why})
			view.Slots[0].Head = api.Head{Gen: 1}
			wantView(t, s, view)
			wantIdle(t, s, x)
			wantReads(t, x, api.Pair{Cell: 4, X: 1004}, api.Pair{Cell: 5, X: 1005})
			wantWrites(t, x, api.Pair{Cell: 2, X: 8})
		}
	}
}

// Its own word may be ErrDoomed: By is then what the head says.
func TestAbortAsADoomedOne(t *testing.T) {
	for by := range 9 {
		s := newSpace(t, wins(2))
		x := begun(t, s, 1, 3)
		wantOK(t, x.Abort(api.ErrDoomed))
		if by > 0 {
			s.Slots().Doom(0, 1, by)
		}
		wantSteps(t, s, 1, x, ran(headTrade(0, true))...)
		wantLast(t, x, api.OfAbort, api.ErrDoomed, 0)
		wantEvents(t, s, 1, api.Event{Kind: api.EventAbort, Step: s.Step(), Thread: 1, Stamp: 3, E: api.ErrDoomed, By: by})
	}
}

// P14.4

func TestReadsAndWritesOfTheLastAttempt(t *testing.T) {
	s := newSpace(t, wins(2))
	x := begun(t, s, 1, 3)
	var reads []api.Pair
	for _, cell := range []int{4, 0, 4, 19} {
		readOf(t, s, 1, cell, x)
		reads = append(reads, api.Pair{Cell: cell, X: int64(1000 + cell)})
		wantReads(t, x, reads...)
		wantWrites(t, x)
	}
	wantOK(t, x.Write(9, 1))
	wantOK(t, x.Write(3, 2))
	wantOK(t, x.Write(9, 5))
	writes := []api.Pair{{Cell: 9, X: 5}, {Cell: 3, X: 2}}
	wantWrites(t, x, writes...)
	wantOK(t, x.Commit())
	for range 8 {
		wantReads(t, x, reads...)
		wantWrites(t, x, writes...)
		s.Turn(1)
		x.Step()
	}
	wantPhase(t, x, api.PhaseIdle)
	wantReads(t, x, reads...)
	wantWrites(t, x, writes...)
	// A begin that finds no slot was an attempt that has done nothing.
	s.Slots().Claim(0, 7)
	s.Slots().Claim(1, 7)
	wantOK(t, x.Begin(3))
	finish(t, s, 1, x)
	wantReads(t, x)
	wantWrites(t, x)
	wantSlot(t, x, 0, 1)
}

func TestReadsOfADoomedOneAreThoseThatItHasDone(t *testing.T) {
	s := newSpace(t, wins(2))
	x := begun(t, s, 1, 3)
	readOf(t, s, 1, 4, x)
	write(t, s, 2, 4)
	readOf(t, s, 1, 5, x)
	wantLast(t, x, api.OfRead, api.ErrDoomed, 0)
	wantReads(t, x, api.Pair{Cell: 4, X: 1004})
}

func TestListsAreNewMemory(t *testing.T) {
	s := newSpace(t, wins(2))
	x := worked(t, s)
	spoil := func(l []api.Pair) {
		for i := range l[:cap(l)] {
			l[:cap(l)][i] = api.Pair{Cell: 11, X: -3}
		}
	}
	for range 2 {
		spoil(x.Reads())
		spoil(x.Writes())
		wantReads(t, x, api.Pair{Cell: 4, X: 1004}, api.Pair{Cell: 5, X: 1005})
		wantWrites(t, x, api.Pair{Cell: 2, X: 8})
		if x.Phase() == api.PhaseActive {
			wantOK(t, x.Commit())
			spoil(x.Writes())
			goOn(t, s, 1, x, 1)
			spoil(x.Writes())
			finish(t, s, 1, x)
		}
	}
	if v := s.View().Cells; v[2] != 8 || v[11] != 1011 {
		t.Error(v)
	}
	// A list that was asked for ahead of it does not grow or change.
	beginOf(t, s, 1, 4, x)
	readOf(t, s, 1, 6, x)
	wantOK(t, x.Write(6, 1))
	reads, writes := x.Reads(), x.Writes()
	wantOK(t, x.Write(6, 2))
	readOf(t, s, 1, 7, x)
	wantOK(t, x.Abort(api.ErrMany))
	finish(t, s, 1, x)
	beginOf(t, s, 1, 4, x)
	readOf(t, s, 1, 8, x)
	wantOK(t, x.Write(9, 3))
	if !slices.Equal(reads, []api.Pair{{Cell: 6, X: 1006}}) || !slices.Equal(writes, []api.Pair{{Cell: 6, X: 1}}) {
		t.Error(reads, writes)
	}
}

func TestSlotOfTheAttemptThatCameToLiveLast(t *testing.T) {
	s := newSpace(t, wins(3))
	x := newTx(t, s, 1)
	wantSlot(t, x, 0, 0)
	s.Slots().Claim(0, 7)
	s.Slots().Claim(1, 7)
	wantOK(t, x.Begin(3))
	for range 6 {
		wantSlot(t, x, 0, 0)
		goOn(t, s, 1, x, 1)
	}
	wantSlot(t, x, 2, 1)
	wantOK(t, x.Abort(api.ErrMany))
	finish(t, s, 1, x)
	wantSlot(t, x, 2, 1)
	s.Slots().Free(1, 1)
	wantOK(t, x.Begin(3))
	for range 5 {
		wantSlot(t, x, 2, 1)
		goOn(t, s, 1, x, 1)
	}
	wantSlot(t, x, 1, 2)
	wantOK(t, x.Commit())
	wantSlot(t, x, 1, 2)
	finish(t, s, 1, x)
	wantSlot(t, x, 1, 2)
}

func TestAskingChangesNothing(t *testing.T) {
	for _, at := range situations() {
		s := newSpace(t, wins(1))
		x := at.reach(t, s)
		before := allOf(s, x)
		for range 2 {
			wantAll(t, s, x, before)
		}
	}
}

// The chapter's examples

func exampleSpace(t *testing.T) *space.Space {
	t.Helper()
	s, e := space.New(api.Config{Cells: 1, Slots: 1, Bits: 128, Tag: api.CommitWins})
	wantOK(t, e)
	wantOK(t, s.Fill([]int64{5}))
	return s
}

func TestExample1(t *testing.T) {
	s := exampleSpace(t)
	x := newTx(t, s, 1)
	wantOK(t, x.Begin(3))
	if e := x.Read(0); e != api.ErrState {
		t.Error(e)
	}
	wantSteps(t, s, 1, x, ran(headTrade(0, true), put(0, 0), put(0, 1), headTrade(0, true))...)
	wantPhase(t, x, api.PhaseActive)
	wantOK(t, x.Read(0))
	goOn(t, s, 1, x, 7)
	wantLast(t, x, api.OfRead, api.OK, 5)
	wantReads(t, x, api.Pair{Cell: 0, X: 5})
	wantOK(t, x.Write(0, 9))
	wantOK(t, x.Read(0))
	wantLast(t, x, api.OfRead, api.OK, 9)
	wantIdle(t, s, x)
	wantOK(t, x.Commit())
	goOn(t, s, 1, x, 5)
	wantPhase(t, x, api.PhaseIdle)
	wantLast(t, x, api.OfCommit, api.OK, 0)
	if v := s.View(); v.Cells[0] != 9 || s.Most() != 1 {
		t.Error(v, s.Most())
	}
	wantEvents(t, s, 0,
		api.Event{Kind: api.EventBegin, Step: 4, Thread: 1, Stamp: 3},
		api.Event{Kind: api.EventRead, Step: 11, Thread: 1, Stamp: 3, X: 5},
		api.Event{Kind: api.EventWrite, Step: 11, Thread: 1, Stamp: 3, X: 9},
		api.Event{Kind: api.EventRead, Step: 11, Thread: 1, Stamp: 3, X: 9, Own: true},
		api.Event{Kind: api.EventCommit, Step: 15, Thread: 1, Stamp: 3, Gate: 1},
	)
}

func TestExample2(t *testing.T) {
	s := exampleSpace(t)
	x := begun(t, s, 1, 3)
	if e := x.Write(1, 0); e != api.ErrPlace {
		t.Error(e)
	}
	if e := x.Abort(api.OK); e != api.ErrArg {
		t.Error(e)
	}
	wantOK(t, x.Abort(api.ErrMany))
	goOn(t, s, 1, x, 1)
	wantLast(t, x, api.OfAbort, api.ErrMany, 0)
	wantEvents(t, s, 1, api.Event{Kind: api.EventAbort, Step: 5, Thread: 1, Stamp: 3, E: api.ErrMany})
	if y, e := tx.New(s, 9); y != nil || e != api.ErrArg {
		t.Error(y, e)
	}
}
