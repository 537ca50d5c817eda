package prog_test

import (
	"slices"
	"strings"
	"testing"

	"quash/api"
	"quash/code"
	"quash/prog"
	"quash/space"
)

// config is one of 20 cells and so many slots, by that tag. With Bits 128 cell 0 has a bit in each word.
func config(n, tag, bias, most int) api.Config {
	return api.Config{Cells: 20, Slots: n, Bits: 128, Tag: tag, Bias: bias, Defer: most}
}

func wins(n int) api.Config { return config(n, api.CommitWins, 0, 0) }

// four is that of the chapter's examples.
func four() api.Config {
	return api.Config{Cells: 4, Slots: 2, Bits: 128, Tag: api.CommitWins}
}

// newSpace is one whose cells hold 0, but for the first ones.
func newSpace(t *testing.T, c api.Config, first ...int64) *space.Space {
	t.Helper()
	s, e := space.New(c)
	if e != api.OK || s.Fill(first) != api.OK {
		t.Fatal(c, first, e)
	}
	return s
}

func parsed(t *testing.T, text string) []api.Instr {
	t.Helper()
	l, line, e := code.Parse(text)
	if e != api.OK {
		t.Fatal(text, line, e)
	}
	return l
}

// lines are put together, each with a byte 10 between.
func lines(l ...string) string { return strings.Join(l, "\n") }

// pushes has so many values: 1, 2, 3, 0, 1 and so on, each of them a cell's number.
func pushes(n int) string {
	var b strings.Builder
	for i := range n {
		b.WriteString("push " + string(rune('0'+(i+1)%4)) + "\n")
	}
	return b.String()
}

func pushed(n int) []int64 {
	var l []int64
	for i := range n {
		l = append(l, int64((i+1)%4))
	}
	return l
}

// runner is a program, its space and its thread.
type runner struct {
	s      *space.Space
	thread int
	p      *prog.Prog
}

func newRunner(t *testing.T, s *space.Space, thread int, text string) *runner {
	t.Helper()
	p, e := prog.New(s, thread, parsed(t, text))
	if p == nil || e != api.OK {
		t.Fatal(text, e)
	}
	return &runner{s, thread, p}
}

// alone is a program of thread 1 in a space of its own, whose cells hold 0, but for the first ones.
func alone(t *testing.T, c api.Config, text string, first ...int64) *runner {
	t.Helper()
	return newRunner(t, newSpace(t, c, first...), 1, text)
}

func (r *runner) step() int {
	r.s.Turn(r.thread)
	return r.p.Step()
}

// goOn makes so many steps that answer Ran.
func (r *runner) goOn(t *testing.T, steps int) {
	t.Helper()
	for i := range steps {
		if a := r.step(); a != api.Ran {
			t.Fatal("step", i, "answer", a, r.p.State())
		}
	}
}

// mostSteps is more than the programs here have that do not go round for ever.
const mostSteps = 5000

// finish makes steps till it has ended, and tells how many.
func (r *runner) finish(t *testing.T) int {
	t.Helper()
	for n := range mostSteps {
		if r.p.Done() {
			return n
		}
		r.step()
	}
	t.Fatal("not ended", r.p.State())
	return mostSteps
}

// reach makes steps till the instruction at that place comes next, with no operation under way.
func (r *runner) reach(t *testing.T, place int) *runner {
	t.Helper()
	for range mostSteps {
		if r.p.State().Place == place && (r.p.Phase() == api.PhaseIdle || r.p.Phase() == api.PhaseActive) {
			return r
		}
		r.step()
	}
	t.Fatal("never there", place, r.p.State())
	return r
}

// until makes steps till the phase is that one.
func (r *runner) until(t *testing.T, phase int) *runner {
	t.Helper()
	for range mostSteps {
		if r.p.Phase() == phase {
			return r
		}
		r.step()
	}
	t.Fatal("never there", phase, r.p.State())
	return r
}

// write has a thread of its own come, write values into the first cells, and go.
func write(t *testing.T, s *space.Space, thread int, l ...int64) {
	t.Helper()
	list := []api.Instr{{Op: api.DoBegin}}
	for cell, x := range l {
		list = append(list, api.Instr{Op: api.DoPush, A: cell}, api.Instr{Op: api.DoPush, A: int(x)}, api.Instr{Op: api.DoStore})
	}
	p, e := prog.New(s, thread, append(list, api.Instr{Op: api.DoCommit}))
	if e != api.OK {
		t.Fatal(e)
	}
	r := &runner{s, thread, p}
	r.finish(t)
	if x := p.State(); x.E != api.OK {
		t.Fatal(x)
	}
}

func sameState(a, b api.ProgState) bool {
	return a.Place == b.Place && slices.Equal(a.Stack, b.Stack) && a.Locals == b.Locals &&
		slices.Equal(a.Told, b.Told) && slices.Equal(a.Held, b.Held) && a.Inside == b.Inside &&
		a.Stamp == b.Stamp && a.Tries == b.Tries && a.Done == b.Done && a.E == b.E
}

func wantState(t *testing.T, p *prog.Prog, want api.ProgState) {
	t.Helper()
	if x := p.State(); !sameState(x, want) {
		t.Errorf("state %+v\nwant  %+v", x, want)
	}
	if p.Done() != want.Done {
		t.Error("done", p.Done())
	}
}

func wantPhase(t *testing.T, p *prog.Prog, want int) {
	t.Helper()
	if phase := p.Phase(); phase != want {
		t.Error("phase", phase, "want", want)
	}
}

func wantTold(t *testing.T, p *prog.Prog, want ...int64) {
	t.Helper()
	if l := p.State().Told; !slices.Equal(l, want) {
		t.Error("told", l, "want", want)
	}
}

func wantCells(t *testing.T, s *space.Space, want ...int64) {
	t.Helper()
	if l := s.View().Cells; !slices.Equal(l, want) {
		t.Error("cells", l, "want", want)
	}
}

// wantEnded asks how it has ended.
func wantEnded(t *testing.T, p *prog.Prog, e api.Errno) {
	t.Helper()
	x := p.State()
	if !x.Done || x.E != e || x.Inside || x.Stamp != 0 || x.Tries != 0 || len(x.Held) > 0 {
		t.Errorf("state %+v, want E %v", x, e)
	}
	wantPhase(t, p, api.PhaseIdle)
}

// all is everything that a program and its space tell.
type all struct {
	state         api.ProgState
	phase         int
	reads, writes []api.Pair
	slot, gen     int
	defers        int
	view          api.View
	log           []api.Access
	events        []api.Event
	steps         int
}

func allOf(s *space.Space, p *prog.Prog) all {
	a := all{
		state: p.State(), phase: p.Phase(), reads: p.Reads(), writes: p.Writes(), defers: p.Defers(),
		view: s.View(), log: s.Log(), events: s.Events(), steps: s.Step(),
	}
	a.slot, a.gen = p.Slot()
	return a
}

func wantAll(t *testing.T, s *space.Space, p *prog.Prog, want all) {
	t.Helper()
	wantState(t, p, want.state)
	wantPhase(t, p, want.phase)
	wantView(t, s, want.view)
	if got := allOf(s, p); !slices.Equal(got.reads, want.reads) || !slices.Equal(got.writes, want.writes) ||
		got.slot != want.slot || got.gen != want.gen || got.defers != want.defers ||
		!slices.Equal(got.log, want.log) || !slices.Equal(got.events, want.events) || got.steps != want.steps {
		t.Errorf("%+v\nwant %+v", got, want)
	}
}

func wantView(t *testing.T, s *space.Space, want api.View) {
	t.Helper()
	v := s.View()
	if !slices.Equal(v.Cells, want.Cells) || v.Gate != want.Gate || !slices.Equal(v.Slots, want.Slots) {
		t.Error(v, "want", want)
	}
}

// wantEvents looks at those behind the first so many; Step is not looked at.
func wantEvents(t *testing.T, s *space.Space, from int, want ...api.Event) {
	t.Helper()
	l := s.Events()
	if len(l) < from {
		t.Fatal(l)
	}
	l = l[from:]
	for i := range l {
		l[i].Step = 0
	}
	if !slices.Equal(l, want) {
		t.Error(l, "want", want)
	}
}

// Accesses.

func gateTrade(ok bool) api.Access {
	return api.Access{Kind: api.OnGate, Op: api.OpTrade, Ok: ok}
}

func gateLook() api.Access { return api.Access{Kind: api.OnGate, Op: api.OpLoad, Ok: true} }

func headLook(slot int) api.Access {
	return api.Access{Kind: api.OnHead, At: slot, Op: api.OpLoad, Ok: true}
}

func headTrade(slot int, ok bool) api.Access {
	return api.Access{Kind: api.OnHead, At: slot, Op: api.OpTrade, Ok: ok}
}

func wordLook(slot, word int) api.Access {
	return api.Access{Kind: api.OnWord, At: 2*slot + word, Op: api.OpLoad, Ok: true}
}

func put(slot, word int) api.Access {
	return api.Access{Kind: api.OnWord, At: 2*slot + word, Op: api.OpStore, Ok: true}
}

func load(cell int) api.Access {
	return api.Access{Kind: api.OnCell, At: cell, Op: api.OpLoad, Ok: true}
}

func store(cell int) api.Access {
	return api.Access{Kind: api.OnCell, At: cell, Op: api.OpStore, Ok: true}
}

// ownStep is a step of a program: its access, if it has one, and its answer.
type ownStep struct {
	access api.Access
	answer int
}

// still is so many steps without an access.
func still(n int) []ownStep { return slices.Repeat([]ownStep{{answer: api.Ran}}, n) }

func ran(l ...api.Access) []ownStep {
	steps := make([]ownStep, len(l))
	for i, a := range l {
		steps[i] = ownStep{a, api.Ran}
	}
	return steps
}

func wait(a api.Access) []ownStep { return []ownStep{{a, api.Wait}} }

// wantSteps goes on by those steps.
func (r *runner) wantSteps(t *testing.T, parts ...[]ownStep) {
	t.Helper()
	for i, want := range slices.Concat(parts...) {
		log := r.s.Log()
		if a := r.step(); a != want.answer {
			t.Error("step", i, "answer", a, "want", want.answer)
		}
		if want.access != (api.Access{}) {
			want.access.Step, want.access.Thread = r.s.Step(), r.thread
			log = append(log, want.access)
		}
		if got := r.s.Log(); !slices.Equal(got, log) {
			t.Fatal("step", i, got, "want", log)
		}
	}
}
