package commit_test

import (
	"math"
	"math/rand"
	"slices"
	"testing"

	"quash/api"
	"quash/commit"
	"quash/policy"
	"quash/sig"
	"quash/space"
)

// config is one of so many slots, by that tag; cells have two bits of their own or share them, as Bits 128 lets them.
func config(n, tag, bias, most int) api.Config {
	return api.Config{Cells: 20, Slots: n, Bits: 128, Tag: tag, Bias: bias, Defer: most}
}

func wins(n int) api.Config { return config(n, api.CommitWins, 0, 0) }

func newSpace(t *testing.T, c api.Config) *space.Space {
	t.Helper()
	s, e := space.New(c)
	if e != api.OK {
		t.Fatal(c, e)
	}
	cells := make([]int64, c.Cells)
	for i := range cells {
		cells[i] = int64(1000 + i)
	}
	s.Fill(cells)
	return s
}

func newJudge(t *testing.T, c api.Config) *policy.Judge {
	t.Helper()
	j, e := policy.New(c)
	if e != api.OK {
		t.Fatal(c, e)
	}
	return j
}

// live lets a slot live, of the next generation, of the thread and the stamp by its number, with those words.
func live(s *space.Space, slot int, words api.Sig) int {
	gen, _ := s.Slots().Claim(slot, slot+1)
	s.Slots().Ready(slot, gen, slot+11)
	for word, x := range words {
		s.Slots().Put(slot, word, x)
	}
	return gen
}

// newLiving is a space in which each slot lives, of generation 1, with those words.
func newLiving(t *testing.T, c api.Config, words api.Sig) *space.Space {
	t.Helper()
	s := newSpace(t, c)
	for slot := range c.Slots {
		live(s, slot, words)
	}
	return s
}

// victim is who lives in a slot of newLiving.
func victim(slot int) api.Victim {
	return api.Victim{Slot: slot, Gen: 1, Stamp: slot + 11, Thread: slot + 1}
}

// ofSlot is the attempt in a slot of newLiving.
func ofSlot(slot int, writes ...api.Pair) commit.Of {
	return commit.Of{Slot: slot, Gen: 1, Thread: slot + 1, Stamp: slot + 11, Writes: writes}
}

// pairs are writes of the first cells.
func pairs(n int) []api.Pair {
	l := make([]api.Pair, n)
	for i := range l {
		l[i] = api.Pair{Cell: i, X: int64(-5 - i)}
	}
	return l
}

func newCommit(t *testing.T, s *space.Space, j *policy.Judge, o commit.Of) *commit.Commit {
	t.Helper()
	x, e := commit.New(s, j, o)
	if x == nil || e != api.OK {
		t.Fatal(o, x, e)
	}
	return x
}

func all() api.Sig { return api.Sig{math.MaxUint64, math.MaxUint64} }

func sigOf(t *testing.T, bits int, cells ...int) api.Sig {
	t.Helper()
	s, e := sig.Of(cells, bits)
	if e != api.OK {
		t.Fatal(cells, e)
	}
	return s
}

// meet compares bit by bit, so that it hangs on no call of the program.
func meet(a, b api.Sig) bool { return a[0]&b[0] != 0 || a[1]&b[1] != 0 }

// The accesses of a commit.

func gateTrade(ok bool) api.Access {
	return api.Access{Kind: api.OnGate, Op: api.OpTrade, Ok: ok}
}

func headLook(slot int) api.Access {
	return api.Access{Kind: api.OnHead, At: slot, Op: api.OpLoad, Ok: true}
}

func wordLook(slot, word int) api.Access {
	return api.Access{Kind: api.OnWord, At: 2*slot + word, Op: api.OpLoad, Ok: true}
}

func headTrade(slot int, ok bool) api.Access {
	return api.Access{Kind: api.OnHead, At: slot, Op: api.OpTrade, Ok: ok}
}

func store(cell int) api.Access {
	return api.Access{Kind: api.OnCell, At: cell, Op: api.OpStore, Ok: true}
}

// ownStep is a step of a commit: its access and its answer.
type ownStep struct {
	access api.Access
	answer int
}

func ran(l ...api.Access) []ownStep {
	steps := make([]ownStep, len(l))
	for i, a := range l {
		steps[i] = ownStep{a, api.Ran}
	}
	return steps
}

func wait(a api.Access) ownStep { return ownStep{a, api.Wait} }

// wantSteps goes on by those steps, each with its one access.
func wantSteps(t *testing.T, s *space.Space, x *commit.Commit, steps ...ownStep) {
	t.Helper()
	for i, want := range steps {
		if x.Done() || x.End() != api.ErrState {
			t.Error("done ahead of step", i, x.Done(), x.End())
		}
		log := s.Log()
		if a := x.Step(); a != want.answer {
			t.Error("step", i, "answer", a, "want", want.answer)
		}
		wantLog(t, s, append(log, want.access))
	}
}

// goOn makes steps that answer Ran.
func goOn(t *testing.T, x *commit.Commit, steps int) {
	t.Helper()
	for range steps {
		if x.Done() {
			t.Error("done too early")
		}
		if a := x.Step(); a != api.Ran {
			t.Error("answer", a)
		}
	}
}

// mostSteps is more than a commit has that does not wait for the gate.
const mostSteps = 60

// finish goes on till it is done, and tells the steps.
func finish(t *testing.T, x *commit.Commit) int {
	t.Helper()
	for step := range mostSteps {
		if x.Done() {
			return step
		}
		x.Step()
	}
	t.Error("not done")
	return mostSteps
}

// wantEnd asks whether it is done with that, and stays so.
func wantEnd(t *testing.T, s *space.Space, x *commit.Commit, want api.Errno) {
	t.Helper()
	log, view := s.Log(), s.View()
	won, number, victims := x.Won(), x.Number(), x.Victims()
	for range 3 {
		if !x.Done() || x.End() != want {
			t.Error(x.Done(), x.End(), "want", want)
		}
		if a := x.Step(); a != api.Idle {
			t.Error("answer", a)
		}
	}
	if won != (want == api.OK) || x.Won() != won || x.Number() != number {
		t.Error(won, x.Won(), number, x.Number())
	}
	wantVictims(t, x, victims...)
	wantLog(t, s, log)
	wantView(t, s, view)
}

func wantUnderWay(t *testing.T, x *commit.Commit, won bool, number int) {
	t.Helper()
	if x.Done() || x.End() != api.ErrState || x.Won() != won || x.Number() != number {
		t.Error(x.Done(), x.End(), x.Won(), x.Number(), "want", won, number)
	}
}

func wantVictims(t *testing.T, x *commit.Commit, want ...api.Victim) {
	t.Helper()
	if l := x.Victims(); !slices.Equal(l, want) {
		t.Error(l, "want", want)
	}
}

func wantRefused(t *testing.T, s *space.Space, j *policy.Judge, o commit.Of, want api.Errno) {
	t.Helper()
	log, view, defers := s.Log(), s.View(), j.Defers()
	if x, e := commit.New(s, j, o); x != nil || e != want {
		t.Error(o, x, e, "want", want)
	}
	wantLog(t, s, log)
	wantView(t, s, view)
	wantDefers(t, j, defers)
}

func wantDefers(t *testing.T, j *policy.Judge, want int) {
	t.Helper()
	if n := j.Defers(); n != want {
		t.Error("defers", n, "want", want)
	}
}

func wantView(t *testing.T, s *space.Space, want api.View) {
	t.Helper()
	v := s.View()
	if !slices.Equal(v.Cells, want.Cells) || v.Gate != want.Gate || !slices.Equal(v.Slots, want.Slots) {
		t.Error(v, "want", want)
	}
}

func wantLog(t *testing.T, s *space.Space, want []api.Access) {
	t.Helper()
	if l := s.Log(); !slices.Equal(l, want) {
		t.Error(l, "want", want)
	}
}

// orders are all ways to mix so many steps of each.
func orders(left []int) [][]int {
	var all [][]int
	for i := range left {
		if left[i] == 0 {
			continue
		}
		left[i]--
		for _, rest := range orders(left) {
			all = append(all, append([]int{i}, rest...))
		}
		left[i]++
	}
	if all == nil {
		return [][]int{nil}
	}
	return all
}

// disturb is what others may do to a slot.
func disturb(rnd *rand.Rand, s *space.Space, slot int) {
	table := s.Slots()
	head := table.Now()[slot].Head
	thread := 1 + rnd.Intn(8)
	switch rnd.Intn(8) {
	case 0:
		table.Claim(slot, thread)
	case 1, 2:
		table.Ready(slot, head.Gen, 1+rnd.Intn(30))
	case 3:
		table.Doom(slot, head.Gen, thread)
	case 4, 5:
		table.Put(slot, rnd.Intn(2), rnd.Uint64()&rnd.Uint64()&rnd.Uint64())
	case 6:
		table.Free(slot, head.Gen)
	default:
		table.Free(slot, head.Gen)
		gen, _ := table.Claim(slot, thread)
		table.Ready(slot, gen, 1+rnd.Intn(30))
	}
}

// meddle is what others may not do, but what a commit is to live through: to cells, the gate and the own slot.
func meddle(rnd *rand.Rand, s *space.Space, slot int) {
	switch rnd.Intn(5) {
	case 0:
		s.Gate().Give(s.Gate().Now().Owner)
	case 1:
		s.Gate().Take(1 + rnd.Intn(8))
	case 2:
		s.Store(rnd.Intn(s.Config().Cells), rnd.Int63())
	default:
		disturb(rnd, s, slot)
	}
}
