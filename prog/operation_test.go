package prog_test

import (
	"slices"
	"strconv"
	"testing"

	"quash/api"
)

// P16.4

func TestACommitTellsWhatIsHeldAtItsEnd(t *testing.T) {
	r := alone(t, four(), lines("push 7", "begin", "push 1", "tell", "push 2", "set 3", "push 0", "push 9", "store", "commit")).reach(t, 9)
	want := api.ProgState{Place: 9, Stack: []int64{7}, Locals: [8]int64{3: 2}, Held: []int64{1}, Inside: true, Stamp: 2}
	wantState(t, r.p, want)
	// The gate is given back, and the commit is noted, one step ahead.
	for r.s.View().Gate.Number < 2 {
		r.goOn(t, 1)
		wantState(t, r.p, want)
	}
	events := r.s.Events()
	if events[len(events)-1].Kind != api.EventCommit {
		t.Error(events)
	}
	r.goOn(t, 1)
	wantState(t, r.p, api.ProgState{Place: 10, Stack: []int64{7}, Locals: [8]int64{3: 2}, Told: []int64{1}})
	if h := r.s.View().Slots[0].Head; h != (api.Head{Gen: 1}) {
		t.Error(h)
	}
}

func TestEachTransactionHasAStampOfItsOwn(t *testing.T) {
	r := alone(t, four(), "begin\ncommit\nbegin\nabort 4\nbegin\ncommit\njump 0")
	for range 3 {
		for _, place := range []int{1, 3, 5} {
			begin := r.s.Step() + 1
			r.reach(t, place)
			wantState(t, r.p, api.ProgState{Place: place, Inside: true, Stamp: begin})
			r.reach(t, place+1)
			wantState(t, r.p, api.ProgState{Place: place + 1})
		}
		r.goOn(t, 1)
	}
}

func TestAnAbortByTheInstruction(t *testing.T) {
	for _, place := range []int{0, 1, 4, 18, 19, 20} {
		text := lines("push 5", "push 6", "push 8", "set 1", "begin", "push 3", "set 1", "push 4", "set 2", "pop", "pop", "push 1", "tell", "push 0", "push 9", "store", "push 2", "abort "+strconv.Itoa(place), "halt", "jump 19")
		r := alone(t, four(), text).reach(t, 17)
		wantState(t, r.p, api.ProgState{Place: 17, Stack: []int64{2}, Locals: [8]int64{1: 3, 2: 4}, Held: []int64{1}, Inside: true, Stamp: 5})
		events := len(r.s.Events())
		r.wantSteps(t, ran(headTrade(0, true)))
		wantState(t, r.p, api.ProgState{Place: place, Stack: []int64{5, 6}, Locals: [8]int64{1: 8}})
		wantPhase(t, r.p, api.PhaseIdle)
		wantEvents(t, r.s, events, api.Event{Kind: api.EventAbort, Thread: 1, Stamp: 5, E: api.ErrProgAbort})
		wantCells(t, r.s, 0, 0, 0, 0)
	}
}

func TestAnAbortThatComesRound(t *testing.T) {
	// The third time it commits, with what the locals were ahead of each begin.
	r := alone(t, four(), lines("push 0", "set 0",
		"a:", "get 0", "push 1", "add", "set 0", "begin", "get 0", "tell", "get 0", "push 3", "same", "zero no", "commit", "halt",
		"no:", "push 50", "set 0", "abort a"))
	for round := range 2 {
		r.reach(t, 17)
		if x := r.p.State(); x.Locals[0] != 50 || !slices.Equal(x.Held, []int64{int64(round + 1)}) {
			t.Error(x)
		}
		r.goOn(t, 1)
		wantState(t, r.p, api.ProgState{Place: 2, Locals: [8]int64{int64(round + 1)}})
	}
	r.finish(t)
	wantEnded(t, r.p, api.OK)
	wantTold(t, r.p, 3)
}

// spoiler is a program whose attempts spoil the stack, the locals and what is held, ahead of a load and a commit: at 16 comes the load, at 20 the commit.
func spoiler() string {
	return lines("push 5", "push 6", "push 8", "set 1", "push 70", "tell", "begin", "push 3", "set 1", "push 4", "set 2", "pop", "pop", "push 1", "tell",
		"push 0", "load", "push 1", "swap", "store", "commit")
}

// saved is how it stands at its begin, with so many tries.
func saved(stamp, tries int) api.ProgState {
	return api.ProgState{Place: 6, Stack: []int64{5, 6}, Locals: [8]int64{1: 8}, Told: []int64{70}, Stamp: stamp, Tries: tries}
}

func wantSpoiled(t *testing.T, r *runner, tries int) {
	t.Helper()
	x := r.p.State()
	if x.Locals != [8]int64{1: 3, 2: 4} || !slices.Equal(x.Held, []int64{1}) || !slices.Equal(x.Told, []int64{70}) || slices.Contains(x.Stack, 5) || x.Tries != tries || !x.Inside {
		t.Errorf("%+v", x)
	}
}

func wantDone(t *testing.T, r *runner, x int64) {
	t.Helper()
	r.finish(t)
	wantState(t, r.p, api.ProgState{Place: 21, Locals: [8]int64{1: 3, 2: 4}, Told: []int64{70, 1}, Done: true})
	if l := r.s.View().Cells; l[1] != x {
		t.Error(l)
	}
}

func TestABeginThatFindsNoSlot(t *testing.T) {
	s := newSpace(t, wins(1))
	other := newRunner(t, s, 2, "begin\ncommit").reach(t, 1)
	r := newRunner(t, s, 1, spoiler()).reach(t, 6)
	stamp := s.Step() + 1
	for tries := range 5 {
		r.goOn(t, 1)
		wantState(t, r.p, saved(stamp, tries+1))
		wantPhase(t, r.p, api.PhaseIdle)
	}
	wantEvents(t, s, 1, slices.Repeat([]api.Event{{Kind: api.EventSlots, Thread: 1, Stamp: stamp, E: api.ErrSlots}}, 5)...)
	other.finish(t)
	r.goOn(t, 4)
	want := saved(stamp, 5)
	want.Place, want.Inside = 7, true
	wantState(t, r.p, want)
	if h := s.View().Slots[0].Head; h.Stamp != stamp {
		t.Error(h)
	}
	wantDone(t, r, 0)
}

// A begin tries every slot, one a step, ahead of that.
func TestABeginThatFindsNoneOfThreeSlots(t *testing.T) {
	s := newSpace(t, wins(3))
	for thread := 2; thread <= 4; thread++ {
		newRunner(t, s, thread, "begin\ncommit").reach(t, 1)
	}
	r := newRunner(t, s, 1, "begin\ncommit")
	stamp := s.Step() + 1
	for tries := range 3 {
		r.wantSteps(t, ran(headTrade(0, false), headTrade(1, false)))
		wantState(t, r.p, api.ProgState{Stamp: stamp, Tries: tries})
		wantPhase(t, r.p, api.PhaseBegin)
		r.wantSteps(t, ran(headTrade(2, false)))
		wantState(t, r.p, api.ProgState{Stamp: stamp, Tries: tries + 1})
	}
}

func TestAReadThatIsDoomed(t *testing.T) {
	s := newSpace(t, wins(2))
	r := newRunner(t, s, 1, spoiler()).reach(t, 6)
	stamp := s.Step() + 1
	for tries := range 4 {
		r.reach(t, 16)
		wantSpoiled(t, r, tries)
		r.goOn(t, 3) // its bits are published, the cell is loaded
		write(t, s, 2, int64(100+tries))
		r.until(t, api.PhaseAbort)
		// It is inside, till its abort has ended.
		wantSpoiled(t, r, tries)
		if x := r.p.State(); x.Place != 16 || x.Stack[0] != 0 || x.Stamp != stamp {
			t.Error(x)
		}
		events := len(s.Events())
		r.wantSteps(t, ran(headTrade(0, true)))
		wantState(t, r.p, saved(stamp, tries+1))
		wantPhase(t, r.p, api.PhaseIdle)
		wantEvents(t, s, events, api.Event{Kind: api.EventAbort, Thread: 1, Stamp: stamp, E: api.ErrDoomed, By: 2})
	}
	wantDone(t, r, 103)
}

func TestACommitThatIsDoomed(t *testing.T) {
	s := newSpace(t, wins(2))
	r := newRunner(t, s, 1, spoiler()).reach(t, 6)
	stamp := s.Step() + 1
	for tries := range 4 {
		r.reach(t, 20)
		wantSpoiled(t, r, tries)
		write(t, s, 2, int64(100+tries))
		wantPhase(t, r.p, api.PhaseActive)
		r.wantSteps(t, ran(gateTrade(true), headLook(0), gateTrade(true)))
		wantSpoiled(t, r, tries)
		r.wantSteps(t, ran(headTrade(0, true)))
		wantState(t, r.p, saved(stamp, tries+1))
	}
	wantDone(t, r, 103)
}

// readerOf is another thread's attempt that has read a cell, and lives.
func readerOf(t *testing.T, first *runner, thread, cell int) *runner {
	t.Helper()
	return newRunner(t, first.s, thread, "begin\npush "+strconv.Itoa(cell)+"\nload\ncommit").reach(t, 3)
}

func TestACommitThatIsDeferred(t *testing.T) {
	s := newSpace(t, config(2, api.ReaderBias, 0, 3))
	r := newRunner(t, s, 1, spoiler()).reach(t, 6)
	readerOf(t, r, 2, 1)
	stamp := s.Step() + 1
	for tries := range 3 {
		r.reach(t, 20)
		wantSpoiled(t, r, tries)
		r.wantSteps(t, ran(gateTrade(true), headLook(1), headLook(0), wordLook(0, 0), wordLook(0, 1)), wait(gateTrade(true)))
		wantSpoiled(t, r, tries)
		r.wantSteps(t, ran(headTrade(1, true)))
		wantState(t, r.p, saved(stamp, tries+1))
		if r.p.Defers() != tries+1 {
			t.Error(r.p.Defers())
		}
	}
	wantDone(t, r, 0)
	if h := s.View().Slots[0].Head; !h.Doomed {
		t.Error(h)
	}
}

func TestACommitThatYields(t *testing.T) {
	s := newSpace(t, config(2, api.Aging, 0, 0))
	r := newRunner(t, s, 1, spoiler()).reach(t, 6)
	older := readerOf(t, r, 2, 1)
	stamp := s.Step() + 1
	for tries := range 3 {
		r.reach(t, 20)
		wantSpoiled(t, r, tries)
		r.reach(t, 6)
		wantState(t, r.p, saved(stamp, tries+1))
	}
	older.finish(t)
	wantEnded(t, older.p, api.OK)
	wantDone(t, r, 0)
}

// Under Aging a transaction that had to begin anew is as old as it was.
func TestTheStampStays(t *testing.T) {
	s := newSpace(t, config(2, api.Aging, 0, 0))
	r := newRunner(t, s, 1, lines("begin", "push 0", "load", "push 1", "push 5", "store", "commit"))
	r.reach(t, 2)
	young := newRunner(t, s, 2, lines("begin", "push 0", "push 7", "store", "commit")).reach(t, 4)
	r.reach(t, 3)
	// It is the older one: the other one yields.
	young.reach(t, 0)
	if x := young.p.State(); x.Tries != 1 || x.Stamp < 2 {
		t.Error(x)
	}
	s.Slots().Doom(0, 1, 7)
	r.step()
	r.step()
	r.reach(t, 0)
	wantState(t, r.p, api.ProgState{Stamp: 1, Tries: 1})
	r.reach(t, 3)
	young.reach(t, 4).reach(t, 0)
	if x := young.p.State(); x.Tries != 2 {
		t.Error(x)
	}
	r.finish(t)
	young.finish(t)
	wantEnded(t, young.p, api.OK)
	wantCells(t, s, append([]int64{7, 5}, make([]int64, 18)...)...)
}

// Tries of one transaction are not those of the next one; nor is what it was deferred.
func TestTriesAreATransactionsOwn(t *testing.T) {
	s := newSpace(t, config(3, api.ReaderBias, 0, 1))
	r := newRunner(t, s, 1, lines("begin", "push 0", "push 1", "store", "commit", "begin", "push 0", "push 2", "store", "commit"))
	readerOf(t, r, 2, 0)
	begin := s.Step() + 1
	r.reach(t, 4).reach(t, 0)
	wantState(t, r.p, api.ProgState{Stamp: begin, Tries: 1})
	if r.p.Defers() != 1 {
		t.Error(r.p.Defers())
	}
	r.reach(t, 5)
	wantState(t, r.p, api.ProgState{Place: 5})
	readerOf(t, r, 3, 0)
	begin = s.Step() + 1
	r.reach(t, 9)
	wantState(t, r.p, api.ProgState{Place: 9, Inside: true, Stamp: begin})
	if r.p.Defers() != 0 {
		t.Error(r.p.Defers())
	}
	r.finish(t)
	wantEnded(t, r.p, api.OK)
}

// An attempt that has only read, and was doomed since, commits all the same.
func TestADoomedReaderCommits(t *testing.T) {
	s := newSpace(t, wins(2), 50)
	r := newRunner(t, s, 1, "begin\npush 0\nload\ntell\ncommit").reach(t, 4)
	write(t, s, 2, 51)
	if h := s.View().Slots[0].Head; !h.Doomed {
		t.Error(h)
	}
	r.wantSteps(t, ran(headTrade(0, true)))
	wantState(t, r.p, api.ProgState{Place: 5, Told: []int64{50}})
}

// P16.5

// wrongs are what goes wrong within an attempt, by the errors.
func wrongs() map[api.Errno][]string {
	return map[api.Errno][]string{
		api.ErrProgStack: {"pop", "pop\npop\npop", "add", "dup\npop\npop\nswap", "set 1\nset 1", pushes(32) + "dup", pushes(32) + "push 1", pushes(32) + "get 0", "load\npop\nload", "push 0\nload\npop\nstore", "push 1\nzero x\ntell\nx:", "pop\nless"},
		api.ErrProgCell:  {"push -1\nload", "push 4\nload", "push 4\npush 1\nstore", "push -1\npush 1\nstore"},
		api.ErrProgTwice: {"begin", "push 1\nbegin", "jump 2"},
		api.ErrProgOpen:  {"halt", "push 1\nhalt", "push 2", "jump x\npop\nx:"},
	}
}

func TestAnInstructionThatIsRefusedInside(t *testing.T) {
	for e, texts := range wrongs() {
		for _, text := range texts {
			// Ahead of it something is told, held and written.
			ahead := lines("push 6", "tell", "begin", "push 9", "tell", "push 1", "push 5", "store", "push 7", "set 4")
			r := alone(t, four(), ahead+"\n"+text, 40, 41, 42, 43)
			before := r.p.State()
			var events []api.Event
			steps := 0
			for !r.p.Done() {
				before, events = r.p.State(), r.s.Events()
				accesses := len(r.s.Log())
				if a := r.step(); a != api.Ran {
					t.Error(text, a)
				}
				steps = len(r.s.Log()) - accesses
			}
			wantEnded(t, r.p, e)
			want := before
			want.Inside, want.Stamp, want.Held, want.Done, want.E = false, 0, nil, true, e
			wantState(t, r.p, want)
			if !before.Inside || before.Locals[4] != 7 || !slices.Equal(before.Held, []int64{9}) || !slices.Equal(before.Told, []int64{6}) {
				t.Error(text, before)
			}
			// The abort is this one step: the slot is freed, nothing is written.
			if steps != 1 {
				t.Error(text, steps)
			}
			wantEvents(t, r.s, len(events), api.Event{Kind: api.EventAbort, Thread: 1, Stamp: 3, E: e})
			wantCells(t, r.s, 40, 41, 42, 43)
			if v := r.s.View(); v.Slots[0].Head != (api.Head{Gen: 1}) || v.Gate != (api.Gate{}) {
				t.Error(text, v)
			}
		}
	}
}

func TestAnInstructionThatIsRefusedOutside(t *testing.T) {
	for text, e := range map[string]api.Errno{
		"pop":                api.ErrProgStack,
		"push 1\nadd":        api.ErrProgStack,
		"load":               api.ErrProgStack,
		"push 3\nload":       api.ErrProgNone,
		"push 9\nload":       api.ErrProgNone,
		"push 3\nstore":      api.ErrProgStack,
		"push 3\ndup\nstore": api.ErrProgNone,
		"commit":             api.ErrProgNone,
		"push 1\ncommit":     api.ErrProgNone,
		"abort 0":            api.ErrProgNone,
	} {
		// Behind a transaction that has committed, and one that has aborted.
		r := alone(t, four(), lines("begin", "push 5", "tell", "commit", "begin", "push 6", "tell", "abort 8", text))
		var before all
		for !r.p.Done() {
			before = allOf(r.s, r.p)
			if a := r.step(); a != api.Ran {
				t.Error(text, a)
			}
		}
		before.state.Done, before.state.E = true, e
		before.steps++
		wantAll(t, r.s, r.p, before)
		wantTold(t, r.p, 5)
	}
}

// stores writes 1 into so many cells.
func stores(n int) string {
	text := "begin\n"
	for cell := range n {
		text += "push " + strconv.Itoa(cell) + "\npush 1\nstore\n"
	}
	return text
}

func TestWritesBeyondTheMost(t *testing.T) {
	r := alone(t, wins(1), stores(16)+"commit")
	r.finish(t)
	wantEnded(t, r.p, api.OK)
	wantCells(t, r.s, append(slices.Repeat([]int64{1}, 16), 0, 0, 0, 0)...)
	// A cell may be written often.
	r = alone(t, wins(1), stores(16)+"push 0\npush 5\nstore\npush 15\npush 6\nstore\ncommit")
	r.finish(t)
	wantEnded(t, r.p, api.OK)
	if l := r.s.View().Cells; l[0] != 5 || l[15] != 6 {
		t.Error(l)
	}
	r = alone(t, wins(1), "push 3\n"+stores(17)+"commit").reach(t, 52)
	want := r.p.State()
	wantState(t, r.p, api.ProgState{Place: 52, Stack: []int64{3, 16, 1}, Inside: true, Stamp: 2})
	events := len(r.s.Events())
	r.wantSteps(t, ran(headTrade(0, true)))
	want.Inside, want.Stamp, want.Done, want.E = false, 0, true, api.ErrWrites
	wantState(t, r.p, want)
	wantEvents(t, r.s, events, api.Event{Kind: api.EventAbort, Thread: 1, Stamp: 2, E: api.ErrWrites})
	wantCells(t, r.s, make([]int64, 20)...)
	// There is no such cell: that is told first.
	r = alone(t, wins(1), stores(16)+"push 20\npush 1\nstore\ncommit")
	r.finish(t)
	wantEnded(t, r.p, api.ErrProgCell)
	// A load of any cell is not a write.
	r = alone(t, wins(1), stores(16)+"push 16\nload\npop\ncommit")
	r.finish(t)
	wantEnded(t, r.p, api.OK)
}

// What an attempt was refused behind tries that failed is the end all the same.
func TestAnInstructionThatIsRefusedBehindTries(t *testing.T) {
	s := newSpace(t, wins(2))
	r := newRunner(t, s, 1, lines("push 4", "begin", "push 0", "load", "zero again", "push 1", "begin", "again:", "push 0", "load", "commit"))
	r.reach(t, 7)
	write(t, s, 2, 5)
	r.until(t, api.PhaseAbort)
	r.step()
	if x := r.p.State(); x.Tries != 1 || x.Place != 1 {
		t.Error(x)
	}
	r.finish(t)
	wantState(t, r.p, api.ProgState{Place: 6, Stack: []int64{4, 1}, Done: true, E: api.ErrProgTwice})
}
