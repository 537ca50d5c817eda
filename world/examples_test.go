package world_test

import (
	"math/rand"
	"slices"
	"strconv"
	"testing"

	"quash/api"
	"quash/world"
)

// The document's ten examples of the whole, the tenth one beside Play's own.

const reading = "begin\npush 0\nload\ntell\npush 1\nload\ntell\ncommit"

// writing writes a value into one cell.
func writing(cell, x int) string {
	return "begin\npush " + strconv.Itoa(cell) + "\npush " + strconv.Itoa(x) + "\nstore\ncommit"
}

func wantTries(t *testing.T, w *world.World, thread, want int) {
	t.Helper()
	if x := state(t, w, thread); x.Tries != want {
		t.Error("tries", x)
	}
}

// lastEnd is how the story ended that ended last.
func lastEnd(t *testing.T, w *world.World) api.Story {
	t.Helper()
	var last api.Story
	for _, s := range w.Stories() {
		if s.End > last.End {
			last = s
		}
	}
	return last
}

func TestTwoThatAdd(t *testing.T) { // example 1
	rnd := rand.New(rand.NewSource(1))
	doomed := 0
	for range 500 {
		w := made(t, anyConfig(rnd, 1, 2), []int64{5}, adding, adding)
		for _, thread := range anyTurns(rnd, 2, 20) {
			w.Step(thread)
		}
		drain(t, w)
		wantCells(t, w, 11)
		want := 0
		for _, s := range w.Stories() {
			if s.E == api.ErrDoomed {
				doomed++
			}
			// Each attempt that took the gate has raised the number by 2, whether it was doomed or not.
			if slices.ContainsFunc(w.Log(), func(a api.Access) bool {
				return a.Thread == s.Thread && a.Kind == api.OnGate && a.Op == api.OpTrade && a.Ok && a.Step > s.Begin && a.Step <= s.End
			}) {
				want += 2
			}
		}
		if g := w.View().Gate; g.Owner != 0 || g.Number < 4 || g.Number != want {
			t.Fatal(g, want)
		}
	}
	if doomed < 50 {
		t.Error("too little was played", doomed)
	}
}

func TestTwoThatRead(t *testing.T) { // example 2
	rnd := rand.New(rand.NewSource(2))
	for range 300 {
		w := made(t, wins(2, 2), []int64{50, 51}, reading, reading)
		for _, thread := range anyTurns(rnd, 2, 30) {
			if a := w.Step(thread); a != api.Ran && a != api.Ended {
				t.Fatal(a)
			}
		}
		drain(t, w)
		for thread := 1; thread <= 2; thread++ {
			wantTold(t, w, thread, 50, 51)
		}
		if g := w.View().Gate; g != (api.Gate{}) || len(w.Stories()) != 2 {
			t.Fatal(g)
		}
	}
}

func TestOneSlotForTwo(t *testing.T) { // example 3
	w := made(t, wins(1, 1), nil, "begin\npush 0\nload\npop\ncommit", adding)
	until(t, w, 1, func() bool { return state(t, w, 1).Inside })
	for i := range 3 {
		goOn(t, w, 2, 1)
		l := w.Events()
		if e := l[len(l)-1]; e.Kind != api.EventSlots || e.E != api.ErrSlots || e.Thread != 2 || len(l) != i+2 {
			t.Error(l)
		}
		wantTries(t, w, 2, i+1)
	}
	finish(t, w, 1)
	finish(t, w, 2)
	wantCells(t, w, 3)
}

func TestBits(t *testing.T) { // example 4
	for bits, tries := range map[int]int{1: 1, 128: 0} {
		c := wins(2, 2)
		c.Bits = bits
		w := made(t, c, nil, "begin\npush 1\nload\npop\npush 1\nload\ncommit", writing(0, 5))
		until(t, w, 1, func() bool { return state(t, w, 1).Place == 5 })
		if bits == 128 { // the bits 30 and 117
			if v := w.View().Slots[0].Words; v != (api.Sig{1 << 30, 1 << (117 - 64)}) {
				t.Error(v)
			}
		}
		finish(t, w, 2)
		if h := w.View().Slots[0].Head; h.Doomed != (tries > 0) {
			t.Error(bits, h)
		}
		until(t, w, 1, func() bool { x := state(t, w, 1); return x.Place == 6 || x.Tries > 0 })
		wantTries(t, w, 1, tries)
	}
}

func TestAReaderThatRests(t *testing.T) { // example 5
	w := made(t, wins(1, 2), []int64{5}, "begin\npush 0\nload\ntell\ncommit", writing(0, 6))
	until(t, w, 1, func() bool { return peer(t, w, 1).Phase == api.PhaseRead })
	until(t, w, 1, func() bool { l := w.Log(); return l[len(l)-1].Kind == api.OnCell })
	finish(t, w, 2)
	before := len(w.Log())
	until(t, w, 1, func() bool { return state(t, w, 1).Tries > 0 })
	var kinds []int
	for _, a := range w.Log()[before:] {
		kinds = append(kinds, a.Kind)
	}
	if want := []int{api.OnGate, api.OnCell, api.OnGate, api.OnHead, api.OnHead}; !slices.Equal(kinds, want) {
		t.Error(kinds)
	}
	if s := lastEnd(t, w); s.Thread != 1 || s.E != api.ErrDoomed || s.By != 2 {
		t.Error(s)
	}
	finish(t, w, 1)
	wantTold(t, w, 1, 6)
}

func TestAReaderThatComesLate(t *testing.T) { // example 5
	w := made(t, wins(1, 2), []int64{5}, writing(0, 6), "begin\npush 0\nload\ntell\ncommit")
	until(t, w, 2, func() bool { return w.View().Slots[0].Head.State == api.Held })
	goOn(t, w, 2, 2)
	// Its words are cleared, and it is not Live, while the committer looks at its head.
	until(t, w, 1, func() bool {
		l := w.Log()
		a := l[len(l)-1]
		return a.Thread == 1 && a.Kind == api.OnHead && a.At == 0 && a.Op == api.OpLoad
	})
	until(t, w, 2, func() bool { l := w.Log(); return l[len(l)-1].Kind == api.OnCell })
	finish(t, w, 1)
	finish(t, w, 2)
	wantTold(t, w, 2, 6)
	if l := w.Stories(); len(l) != 2 || l[0].Fate != api.Commits || l[1].Fate != api.Commits {
		t.Error(l)
	}
}

func TestADoomedReaderCommits(t *testing.T) { // example 6
	w := made(t, wins(2, 2), []int64{50, 51}, reading, "begin\npush 0\npush 1\nstore\npush 1\npush 2\nstore\ncommit")
	until(t, w, 1, func() bool { return state(t, w, 1).Place == 7 })
	finish(t, w, 2)
	if h := w.View().Slots[0].Head; !h.Doomed || h.By != 2 {
		t.Error(h)
	}
	finish(t, w, 1)
	wantTold(t, w, 1, 50, 51)
	wantCells(t, w, 1, 2)
	if l := w.Stories(); len(l) != 2 || l[0].Fate != api.Commits {
		t.Error(l)
	}
}

func TestWhoIsDeferredOnce(t *testing.T) { // example 7
	c := wins(1, 2)
	c.Tag, c.Defer = api.ReaderBias, 1
	w := made(t, c, []int64{5}, "begin\npush 0\nload\ntell\npush 0\nload\ntell\ncommit", writing(0, 6))
	until(t, w, 1, func() bool { return state(t, w, 1).Place == 4 })
	waits := 0
	for range 60 {
		if a := w.Step(2); a == api.Wait {
			waits++
			if g := w.View().Gate; g != (api.Gate{Number: 2}) || peer(t, w, 2).Defers != 1 || w.View().Slots[0].Head.Doomed {
				t.Error(g)
			}
			goOn(t, w, 2, 1)
			if s := lastEnd(t, w); s.E != api.ErrDefer || s.Thread != 2 || w.View().Slots[1].Head.State != api.Free {
				t.Error(s)
			}
			wantTries(t, w, 2, 1)
		}
	}
	if !state(t, w, 2).Done || waits != 1 || !w.View().Slots[0].Head.Doomed {
		t.Error(waits, w.View())
	}
	wantCells(t, w, 6)
	until(t, w, 1, func() bool { return state(t, w, 1).Tries == 1 })
	finish(t, w, 1)
	wantTold(t, w, 1, 6, 6)
}

func TestTheOlderOneGoesAhead(t *testing.T) { // example 8
	c := wins(1, 2)
	c.Tag = api.Aging
	const text = "begin\npush 0\nload\npush 1\nadd\nset 0\npush 0\nget 0\nstore\ncommit"
	for first := 1; first <= 2; first++ { // thread 1, which is the older one, commits first, or second
		w := made(t, c, []int64{5}, text, text)
		goOn(t, w, 1, 1)
		for thread := range 2 {
			until(t, w, thread+1, func() bool { return state(t, w, thread+1).Place == 9 })
		}
		if a, b := state(t, w, 1), state(t, w, 2); a.Stamp != 1 || b.Stamp <= a.Stamp {
			t.Fatal(a, b)
		}
		until(t, w, first, func() bool { return lastEnd(t, w).Thread == first })
		s, h := lastEnd(t, w), w.View().Slots
		if first == 1 && (s.Fate != api.Commits || !h[1].Head.Doomed || h[1].Head.By != 1) {
			t.Error(s, h)
		}
		if first == 2 && (s.Fate != api.Aborts || s.E != api.ErrYield || h[0].Head.Doomed) {
			t.Error(s, h)
		}
		drain(t, w)
		wantCells(t, w, 7)
	}
}

func TestSeventeenWrites(t *testing.T) { // example 9
	for many, want := range map[int]api.Errno{16: api.OK, 17: api.ErrWrites} {
		m := &maker{}
		m.say("begin")
		for cell := range many {
			m.say("push "+strconv.Itoa(cell), "push 7", "store")
		}
		m.say("push 0", "push 8", "store", "commit") // a cell that it has written already
		w := made(t, wins(17, 1), nil, m.b.String())
		finish(t, w, 1)
		x, s := state(t, w, 1), lastEnd(t, w)
		if x.E != want || s.E != want || len(peer(t, w, 1).Writes) != 16 {
			t.Error(x, s)
		}
		cells := slices.Repeat([]int64{0}, 17)
		if want == api.OK {
			cells = append([]int64{8}, append(slices.Repeat([]int64{7}, 15), 0)...)
		} else if s.Fate != api.Aborts || w.View().Gate != (api.Gate{}) || w.View().Slots[0].Head.State != api.Free {
			t.Error(s, w.View())
		}
		wantCells(t, w, cells...)
	}
}
