package prog_test

import (
	"math"
	"slices"
	"testing"

	"quash/api"
	"quash/code"
	"quash/prog"
	"quash/space"
)

// P16.1

func TestNewRefuses(t *testing.T) {
	s := newSpace(t, four())
	right := []api.Instr{{Op: api.DoHalt}}
	wrong := []api.Instr{{Op: 99}}
	refused := func(s *space.Space, thread int, l []api.Instr, want api.Errno) {
		t.Helper()
		if p, e := prog.New(s, thread, l); p != nil || e != want {
			t.Error(thread, len(l), p, e, "want", want)
		}
	}
	for _, thread := range []int{0, -1, 9, 10, 256, math.MinInt, math.MaxInt, 1<<32 + 1} {
		refused(s, thread, right, api.ErrArg)
		refused(s, thread, wrong, api.ErrArg)
		refused(s, thread, nil, api.ErrArg)
		refused(nil, thread, right, api.ErrArg)
	}
	refused(nil, 1, right, api.ErrArg)
	refused(nil, 1, wrong, api.ErrArg)
	refused(s, 1, nil, api.ErrCodeLong)
	refused(s, 1, []api.Instr{}, api.ErrCodeLong)
	refused(s, 8, slices.Repeat(right, 401), api.ErrCodeLong)
	refused(s, 1, wrong, api.ErrCodeOp)
	for _, in := range []api.Instr{{Op: api.DoNone}, {Op: 23}, {Op: -1}, {Op: math.MinInt}, {Op: math.MaxInt}} {
		refused(s, 1, []api.Instr{{Op: api.DoHalt}, in, {Op: api.DoHalt, A: 1}}, api.ErrCodeOp)
	}
	for _, in := range []api.Instr{{Op: api.DoGet, A: 8}, {Op: api.DoSet, A: -1}, {Op: api.DoJump, A: 3}, {Op: api.DoZero, A: -1}, {Op: api.DoAbort, A: 3}, {Op: api.DoPop, A: 1}, {Op: api.DoHalt, A: -1}} {
		refused(s, 1, []api.Instr{{Op: api.DoHalt}, in}, api.ErrCodeArg)
	}
	wantView(t, s, newSpace(t, four()).View())
	if len(s.Log()) > 0 || len(s.Events()) > 0 || s.Step() != 0 {
		t.Error(s.Log(), s.Events(), s.Step())
	}
}

func TestNewIsAtItsBeginning(t *testing.T) {
	for _, c := range []api.Config{four(), wins(1), config(8, api.ReaderBias, 8, 64), config(2, api.Aging, 0, 0)} {
		s := newSpace(t, c)
		for thread := 1; thread <= 8; thread++ {
			r := newRunner(t, s, thread, "begin\ncommit")
			wantAll(t, s, r.p, all{view: newSpace(t, c).View()})
		}
	}
}

func TestNewTakesTheLongest(t *testing.T) {
	s := newSpace(t, four())
	p, e := prog.New(s, 1, slices.Repeat([]api.Instr{{Op: api.DoJump, A: 400}}, 400))
	if e != api.OK {
		t.Fatal(e)
	}
	r := &runner{s, 1, p}
	r.goOn(t, 1)
	wantState(t, p, api.ProgState{Place: 400})
	r.goOn(t, 1)
	wantState(t, p, api.ProgState{Place: 400, Done: true})
	text := ""
	for range 200 {
		text += "push 3\ntell\n"
	}
	r = alone(t, four(), text)
	if n := r.finish(t); n != 401 {
		t.Error(n)
	}
	wantTold(t, r.p, slices.Repeat([]int64{3}, 200)...)
}

// What code.Verify refuses is taken all the same.
func TestNewTakesWhatVerifyRefuses(t *testing.T) {
	for _, text := range []string{"pop", "begin", "load", "commit", "push 1\njump 0"} {
		if e, _ := code.Verify(parsed(t, text)); e == api.OK {
			t.Error(text)
		}
		alone(t, four(), text)
	}
}

func TestStateOfATransaction(t *testing.T) {
	s := newSpace(t, four(), 50)
	s.Turn(7)
	s.Turn(7)
	r := newRunner(t, s, 3, lines("push 4", "set 2", "push 9", "tell", "push 8", "begin", "push 6", "tell", "push 0", "load", "push 1", "push 5", "store", "commit"))
	locals := [8]int64{2: 4}
	at := api.ProgState{Place: 5, Stack: []int64{8}, Locals: locals, Told: []int64{9}}
	r.goOn(t, 5)
	wantState(t, r.p, at)
	at.Stamp = 8
	for range 3 {
		r.goOn(t, 1)
		wantState(t, r.p, at)
		wantPhase(t, r.p, api.PhaseBegin)
	}
	r.goOn(t, 1)
	at.Place, at.Inside = 6, true
	wantState(t, r.p, at)
	wantPhase(t, r.p, api.PhaseActive)
	r.goOn(t, 3)
	at.Place, at.Held, at.Stack = 9, []int64{6}, []int64{8, 0}
	wantState(t, r.p, at)
	for range 6 {
		r.goOn(t, 1)
		wantState(t, r.p, at)
		wantPhase(t, r.p, api.PhaseRead)
	}
	r.goOn(t, 1)
	at.Place, at.Stack = 10, []int64{8, 50}
	wantState(t, r.p, at)
	wantPhase(t, r.p, api.PhaseActive)
	r.goOn(t, 2)
	at.Place, at.Stack = 12, []int64{8, 50, 1, 5}
	wantState(t, r.p, at)
	r.goOn(t, 1)
	at.Place, at.Stack = 13, []int64{8, 50}
	wantState(t, r.p, at)
	for range 5 {
		r.goOn(t, 1)
		wantState(t, r.p, at)
		wantPhase(t, r.p, api.PhaseCommit)
	}
	r.goOn(t, 1)
	at = api.ProgState{Place: 14, Stack: []int64{8, 50}, Locals: locals, Told: []int64{9, 6}}
	wantState(t, r.p, at)
	wantPhase(t, r.p, api.PhaseIdle)
	r.goOn(t, 1)
	at.Done = true
	wantState(t, r.p, at)
	wantCells(t, s, 50, 5, 0, 0)
}

func TestWhatItsTransactionTells(t *testing.T) {
	s := newSpace(t, config(2, api.ReaderBias, 0, 2), 50, 51)
	other := newRunner(t, s, 2, "begin\npush 1\nload\ncommit").reach(t, 3)
	r := newRunner(t, s, 1, lines("begin", "push 0", "load", "push 1", "push 5", "store", "push 1", "load", "commit"))
	tells := func(slot, gen, defers int, reads, writes []api.Pair) {
		t.Helper()
		a := allOf(s, r.p)
		if a.slot != slot || a.gen != gen || a.defers != defers || !slices.Equal(a.reads, reads) || !slices.Equal(a.writes, writes) {
			t.Errorf("%+v", a)
		}
	}
	tells(0, 0, 0, nil, nil)
	reads, writes := []api.Pair{{Cell: 0, X: 50}}, []api.Pair{{Cell: 1, X: 5}}
	r.reach(t, 1)
	tells(1, 1, 0, nil, nil)
	r.reach(t, 3)
	tells(1, 1, 0, reads, nil)
	r.reach(t, 8)
	tells(1, 1, 0, reads, writes)
	// It is deferred twice, and keeps count; those of the last attempt stay, till the next one begins.
	r.reach(t, 0)
	tells(1, 1, 1, reads, writes)
	r.step()
	tells(1, 1, 1, nil, nil)
	r.reach(t, 8).reach(t, 0)
	tells(1, 2, 2, reads, writes)
	r.finish(t)
	tells(1, 3, 2, reads, writes)
	wantEnded(t, r.p, api.OK)
	if h := s.View().Slots[0].Head; !h.Doomed || h.By != 1 {
		t.Error(h)
	}
	other.finish(t)
	wantEnded(t, other.p, api.OK)
}

// P16.2

func TestStepsWithTheirAccesses(t *testing.T) {
	r := alone(t, four(), lines("begin", "push 1", "push 7", "store", "push 1", "load", "tell", "push 0", "load", "push 0", "load", "commit", "push 2", "tell"))
	r.wantSteps(t,
		ran(headTrade(0, true), put(0, 0), put(0, 1), headTrade(0, true)), // begin
		still(2),
		still(1), // store
		still(1),
		still(1), // a load of what it wrote itself
		still(2),
		ran(put(0, 0), put(0, 1), load(0), gateLook(), load(0), gateLook(), headLook(0)),
		still(1),
		ran(load(0), gateLook(), headLook(0)),
		ran(gateTrade(true), headLook(0), headLook(1), store(1), gateTrade(true), headTrade(0, true)), // commit
		still(2),
		still(1), // the end
	)
	wantEnded(t, r.p, api.OK)
	wantTold(t, r.p, 7, 2)
}

func TestStepsOfAnEmptyTransaction(t *testing.T) {
	begins := ran(headTrade(0, true), put(0, 0), put(0, 1), headTrade(0, true))
	for _, text := range []string{"begin\ncommit\nhalt", "begin\nabort 2\nhalt"} {
		r := alone(t, four(), text)
		r.wantSteps(t, begins, ran(headTrade(0, true)), still(1))
		wantEnded(t, r.p, api.OK)
	}
	// A halt that is refused is one step, in which the slot is freed.
	r := alone(t, four(), "begin\nhalt")
	r.wantSteps(t, begins, ran(headTrade(0, true)))
	wantEnded(t, r.p, api.ErrProgOpen)
}

func TestAStepThatWaits(t *testing.T) {
	s := newSpace(t, four(), 50)
	r := newRunner(t, s, 1, lines("begin", "push 0", "load", "push 0", "push 5", "store", "commit"))
	r.reach(t, 2)
	s.Gate().Take(2)
	r.wantSteps(t, ran(put(0, 0), put(0, 1), load(0)), wait(gateLook()), wait(gateLook()), wait(gateLook()))
	wantState(t, r.p, api.ProgState{Place: 2, Stack: []int64{0}, Inside: true, Stamp: 1})
	s.Gate().Give(2)
	r.wantSteps(t, ran(gateLook(), load(0), gateLook(), headLook(0)), still(3))
	s.Gate().Take(2)
	r.wantSteps(t, wait(gateTrade(false)), wait(gateTrade(false)))
	wantState(t, r.p, api.ProgState{Place: 6, Stack: []int64{50}, Inside: true, Stamp: 1})
	s.Gate().Give(2)
	r.wantSteps(t, ran(gateTrade(true), headLook(0), headLook(1), store(0), gateTrade(true), headTrade(0, true)))
	wantState(t, r.p, api.ProgState{Place: 7, Stack: []int64{50}})
}

func TestAStepThatGivesTheGateUp(t *testing.T) {
	s := newSpace(t, config(2, api.ReaderBias, 0, 1))
	newRunner(t, s, 2, "begin\npush 0\nload\ncommit").reach(t, 3)
	r := newRunner(t, s, 1, lines("begin", "push 0", "push 5", "store", "commit")).reach(t, 4)
	r.wantSteps(t,
		ran(gateTrade(true), headLook(1), headLook(0), wordLook(0, 0), wordLook(0, 1)),
		wait(gateTrade(true)), ran(headTrade(1, true)))
	wantPhase(t, r.p, api.PhaseIdle)
}

func TestAStepThatFindsNoSlot(t *testing.T) {
	s := newSpace(t, wins(1))
	newRunner(t, s, 2, "begin\ncommit").reach(t, 1)
	r := newRunner(t, s, 1, "begin\ncommit")
	r.wantSteps(t, ran(headTrade(0, false), headTrade(0, false), headTrade(0, false)))
}

func TestStepsBehindTheEnd(t *testing.T) {
	for text, e := range map[string]api.Errno{
		"halt":                               api.OK,
		"push 1\ntell":                       api.OK,
		"push 3\npop\npop":                   api.ErrProgStack,
		"begin\npush 5\ntell\nbegin":         api.ErrProgTwice,
		"begin\npush 0\npush 5\nstore\nhalt": api.ErrProgOpen,
	} {
		r := alone(t, four(), text)
		r.finish(t)
		wantEnded(t, r.p, e)
		for range 3 {
			r.s.Turn(1)
			before := allOf(r.s, r.p)
			if a := r.p.Step(); a != api.Ended {
				t.Error(text, a)
			}
			wantAll(t, r.s, r.p, before)
		}
	}
}

// R1: no step was begun, so that there is no number for a stamp. It is left open what comes then, but it ends.
func TestAStepThatNobodyHasBegun(t *testing.T) {
	s := newSpace(t, four())
	p, _ := prog.New(s, 1, parsed(t, "begin\npush 0\nload\ncommit"))
	for range 20 {
		p.Step()
	}
	if len(s.Log()) > 0 || s.View().Slots[0].Head != (api.Head{}) {
		t.Error(s.Log(), s.View())
	}
}

// P16.6

func TestTheListIsNotKept(t *testing.T) {
	s := newSpace(t, four())
	room := []api.Instr{{Op: api.DoPush, A: 5}, {Op: api.DoTell}, {Op: api.DoHalt}, {Op: 99, A: 7}, {Op: 98, A: -7}}
	before := slices.Clone(room)
	r := &runner{s: s, thread: 1}
	r.p, _ = prog.New(s, 1, room[:3])
	r.goOn(t, 1)
	if !slices.Equal(room, before) {
		t.Error(room)
	}
	for i := range room {
		room[i] = api.Instr{Op: api.DoJump}
	}
	r.finish(t)
	wantTold(t, r.p, 5)
	for i, in := range room {
		if in != (api.Instr{Op: api.DoJump}) {
			t.Error(i, in)
		}
	}
}

func spoil[T any](l []T, x T) {
	l = l[:cap(l)]
	for i := range l {
		l[i] = x
	}
}

func TestAnswersAreNewMemory(t *testing.T) {
	r := alone(t, four(), lines("push 3", "push 4", "push 1", "tell", "begin", "push 1", "tell", "push 2", "tell", "push 0", "load", "push 1", "push 7", "store", "commit"))
	for !r.p.Done() {
		before := allOf(r.s, r.p)
		x := r.p.State()
		for _, l := range [][]int64{x.Stack, x.Told, x.Held} {
			spoil(l, 99)
		}
		spoil(r.p.Reads(), api.Pair{Cell: 9, X: 9})
		spoil(r.p.Writes(), api.Pair{Cell: 9, X: 9})
		wantAll(t, r.s, r.p, before)
		r.step()
	}
	wantTold(t, r.p, 1, 1, 2)
	wantCells(t, r.s, 0, 7, 0, 0)
}

func TestListsOfOneStateShareNothing(t *testing.T) {
	r := alone(t, four(), lines("push 3", "push 1", "tell", "begin", "push 1", "tell", "commit")).reach(t, 6)
	x := r.p.State()
	spoil(append(x.Stack, 0), 77)
	spoil(x.Stack, 77)
	if !slices.Equal(x.Told, []int64{1}) || !slices.Equal(x.Held, []int64{1}) {
		t.Error(x)
	}
	spoil(x.Told, 78)
	if !slices.Equal(x.Stack, []int64{77}) || !slices.Equal(x.Held, []int64{1}) {
		t.Error(x)
	}
}

// An answer does not change when the program goes on.
func TestAnswersStay(t *testing.T) {
	r := alone(t, four(), lines("push 3", "push 4", "begin", "push 1", "tell", "swap", "push 2", "tell", "push 0", "load", "commit", "push 8", "tell"))
	type kept struct {
		state  api.ProgState
		stack  []int64
		told   []int64
		held   []int64
		reads  []api.Pair
		copied []api.Pair
	}
	var l []kept
	for !r.p.Done() {
		x, reads := r.p.State(), r.p.Reads()
		l = append(l, kept{x, slices.Clone(x.Stack), slices.Clone(x.Told), slices.Clone(x.Held), reads, slices.Clone(reads)})
		r.step()
	}
	for i, k := range l {
		if !slices.Equal(k.state.Stack, k.stack) || !slices.Equal(k.state.Told, k.told) || !slices.Equal(k.state.Held, k.held) || !slices.Equal(k.reads, k.copied) {
			t.Error(i, k)
		}
	}
}

// The chapter's examples

func TestExamples(t *testing.T) {
	for _, x := range []struct {
		text  string
		told  []int64
		e     api.Errno
		cells []int64
	}{
		{"pop", nil, api.ErrProgStack, nil},
		{"push 0\nload", nil, api.ErrProgNone, nil},
		{"begin\nhalt", nil, api.ErrProgOpen, nil},
		{"commit", nil, api.ErrProgNone, nil},
		{"begin\npush 1\npush 7\nstore\npush 1\nload\ntell\ncommit", []int64{7}, api.OK, []int64{0, 7, 0, 0}},
		{"begin\npush 5\ntell\npush 0\npush 9\nstore\nabort 7\npush 6\ntell", []int64{6}, api.OK, nil},
		{"begin\npush 4\nload", nil, api.ErrProgCell, nil},
		{"push -7\npush 3\nmod\ntell", []int64{2}, api.OK, nil},
		{"push 7\npush 0\nmod\ntell", []int64{0}, api.OK, nil},
		{"push 7\npush -3\nmod\ntell", []int64{0}, api.OK, nil},
	} {
		r := alone(t, four(), x.text)
		r.finish(t)
		wantEnded(t, r.p, x.e)
		wantTold(t, r.p, x.told...)
		if x.cells == nil {
			x.cells = make([]int64, 4)
		}
		wantCells(t, r.s, x.cells...)
		if v := r.s.View(); v.Slots[0].Head.State != api.Free || v.Gate.Owner != 0 {
			t.Error(x.text, v)
		}
	}
	r := alone(t, four(), "push 2\npush 3\nsub\ntell")
	r.goOn(t, 5)
	wantState(t, r.p, api.ProgState{Place: 4, Told: []int64{-1}, Done: true})
}
