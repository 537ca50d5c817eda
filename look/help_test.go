package look_test

import (
	"math"
	"math/rand"
	"slices"
	"testing"

	"quash/api"
	"quash/look"
	"quash/space"
)

// newSpace is one whose slots are Free, of generation 0.
func newSpace(t *testing.T, n int) *space.Space {
	t.Helper()
	s, e := space.New(api.Config{Cells: 2, Slots: n, Bits: 128, Tag: api.CommitWins})
	if e != api.OK {
		t.Fatal(n, e)
	}
	return s
}

// newLiving is one in which each slot lives, of generation 1, of the thread and the stamp by its number, with those words.
func newLiving(t *testing.T, n int, words api.Sig) *space.Space {
	t.Helper()
	s := newSpace(t, n)
	for slot := range n {
		s.Slots().Claim(slot, slot+1)
		s.Slots().Ready(slot, 1, slot+11)
		putWords(s, slot, words)
	}
	return s
}

func newLook(t *testing.T, s *space.Space, slot int, writes api.Sig) *look.Look {
	t.Helper()
	x, e := look.New(s, slot, writes)
	if x == nil || e != api.OK {
		t.Fatal(slot, writes, x, e)
	}
	return x
}

func newDoom(t *testing.T, s *space.Space, by int, victims []api.Victim) *look.Doom {
	t.Helper()
	x, e := look.NewDoom(s, by, victims)
	if x == nil || e != api.OK {
		t.Fatal(by, victims, x, e)
	}
	return x
}

func all() api.Sig { return api.Sig{math.MaxUint64, math.MaxUint64} }

// numberOfKinds is how many kinds of slots set knows.
const numberOfKinds = 9

// set lets a slot of generation 0 be of a kind: Free, Held, doomed or (3 and above) Live with other words; its words meet writes of (2 1), but those of 3 and 4.
func set(s *space.Space, slot, kind int) {
	table := s.Slots()
	words := []api.Sig{{2, 1}, {2, 1}, all(), {}, {1, 2}, {2, 0}, {0, 1}, {3, 7}, all()}[kind]
	// So that slots have generations of their own.
	for gen := range slot {
		table.Claim(slot, 8)
		table.Free(slot, gen+1)
	}
	gen, _ := table.Claim(slot, 1+(slot+3)%8)
	putWords(s, slot, words)
	switch kind {
	case api.Free:
		table.Free(slot, gen)
		return
	case api.Held:
		return
	}
	table.Ready(slot, gen, 100-7*slot)
	if kind == 2 {
		table.Doom(slot, gen, 6)
	}
}

func putWords(s *space.Space, slot int, words api.Sig) {
	for word, x := range words {
		s.Slots().Put(slot, word, x)
	}
}

// nextKinds counts the kinds up; false behind the last ones.
func nextKinds(kinds []int, base int) bool {
	for i := range kinds {
		kinds[i]++
		if kinds[i] < base {
			return true
		}
		kinds[i] = 0
	}
	return false
}

// meet compares bit by bit, so that it hangs on no call of the program.
func meet(a, b api.Sig) bool { return a[0]&b[0] != 0 || a[1]&b[1] != 0 }

func victimOf(slot int, h api.Head) api.Victim {
	return api.Victim{Slot: slot, Gen: h.Gen, Stamp: h.Stamp, Thread: h.Thread}
}

func headLook(slot int) api.Access {
	return api.Access{Kind: api.OnHead, At: slot, Op: api.OpLoad, Ok: true}
}

func wordLook(slot, word int) api.Access {
	return api.Access{Kind: api.OnWord, At: 2*slot + word, Op: api.OpLoad, Ok: true}
}

func trade(slot int, ok bool) api.Access {
	return api.Access{Kind: api.OnHead, At: slot, Op: api.OpTrade, Ok: ok}
}

// orders are all ways to mix so many steps of each.
func orders(left []int) [][]int {
	var all [][]int
	for i := range left {
		if left[i] == 0 {
			continue
		}
		left[i]--
		for _, rest := range orders(left) {
			all = append(all, append([]int{i}, rest...))
		}
		left[i]++
	}
	if all == nil {
		return [][]int{nil}
	}
	return all
}

// disturb is what others may do to a slot.
func disturb(rnd *rand.Rand, s *space.Space, slot int) {
	table := s.Slots()
	head := table.Now()[slot].Head
	thread := 1 + rnd.Intn(8)
	switch rnd.Intn(8) {
	case 0:
		table.Claim(slot, thread)
	case 1, 2:
		table.Ready(slot, head.Gen, 1+rnd.Intn(9))
	case 3:
		table.Doom(slot, head.Gen, thread)
	case 4, 5:
		table.Put(slot, rnd.Intn(2), someWord(rnd))
	case 6:
		table.Free(slot, head.Gen)
	default:
		table.Free(slot, head.Gen)
		gen, _ := table.Claim(slot, thread)
		table.Ready(slot, gen, 1+rnd.Intn(9))
	}
}

// someWord has few bits, so that words meet and do not meet often.
func someWord(rnd *rand.Rand) uint64 {
	if rnd.Intn(3) == 0 {
		return 0
	}
	return 1 << rnd.Intn(3) << (60 * rnd.Intn(2))
}

// stepper is a machine.
type stepper interface {
	Step() int
	Done() bool
}

func goOn(t *testing.T, x stepper, steps int) {
	t.Helper()
	for range steps {
		if x.Done() {
			t.Error("done too early")
		}
		if a := x.Step(); a != api.Ran {
			t.Error("answer", a)
		}
	}
}

// mostSteps is how many a look has at most: of seven other slots that live.
const mostSteps = 21

// end goes on till a look is done.
func end(t *testing.T, x *look.Look) {
	t.Helper()
	for step := 0; step < mostSteps && !x.Done(); step++ {
		goOn(t, x, 1)
	}
	if !x.Done() {
		t.Error("not done")
	}
}

// wantEnd asks whether it is done, and stays so.
func wantEnd(t *testing.T, s *space.Space, x stepper) {
	t.Helper()
	log, view := s.Log(), s.View()
	for range 3 {
		if !x.Done() {
			t.Error("not done")
		}
		if a := x.Step(); a != api.Idle {
			t.Error("answer", a)
		}
	}
	wantLog(t, s, log)
	wantView(t, s, view)
}

func wantUnderWay(t *testing.T, x stepper) {
	t.Helper()
	if x.Done() {
		t.Error("done")
	}
}

func wantList(t *testing.T, got, want []api.Victim) {
	t.Helper()
	if !slices.Equal(got, want) {
		t.Error(got, "want", want)
	}
}

func wantView(t *testing.T, s *space.Space, want api.View) {
	t.Helper()
	v := s.View()
	if !slices.Equal(v.Cells, want.Cells) || v.Gate != want.Gate || !slices.Equal(v.Slots, want.Slots) {
		t.Error(v, "want", want)
	}
}

func wantLog(t *testing.T, s *space.Space, want []api.Access) {
	t.Helper()
	if l := s.Log(); !slices.Equal(l, want) {
		t.Error(l, "want", want)
	}
}

func wantLast(t *testing.T, s *space.Space, want api.Access) {
	t.Helper()
	l := s.Log()
	if len(l) == 0 || l[len(l)-1] != want {
		t.Error(l, "want", want)
	}
}
