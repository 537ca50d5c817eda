package commit_test

import (
	"math"
	"slices"
	"testing"

	"quash/api"
	"quash/commit"
	"quash/space"
)

// P13.1

func TestNewRefusesAThreadOrAStamp(t *testing.T) {
	c := wins(2)
	s, j := newLiving(t, c, all()), newJudge(t, c)
	// What else is wrong does not count: it is named behind these.
	for _, writes := range [][]api.Pair{pairs(1), pairs(17), {{Cell: -1}}, {{Cell: 3}, {Cell: 3}}, nil} {
		for _, slot := range []int{0, -1, 2} {
			for _, thread := range []int{0, -1, 9, 256, math.MinInt, math.MaxInt, 1<<32 + 1} {
				wantRefused(t, s, j, commit.Of{Slot: slot, Gen: 1, Thread: thread, Stamp: 5, Writes: writes}, api.ErrArg)
			}
			for _, stamp := range []int{0, -1, math.MinInt, -1 << 32} {
				wantRefused(t, s, j, commit.Of{Slot: slot, Gen: 1, Thread: 1, Stamp: stamp, Writes: writes}, api.ErrArg)
			}
		}
	}
}

func TestNewRefusesNoWrites(t *testing.T) {
	c := wins(2)
	s, j := newLiving(t, c, all()), newJudge(t, c)
	for _, writes := range [][]api.Pair{nil, {}, make([]api.Pair, 0, 4)} {
		for _, slot := range []int{0, 1, 2, -1} {
			wantRefused(t, s, j, commit.Of{Slot: slot, Gen: 1, Thread: 1, Stamp: 5, Writes: writes}, api.ErrArg)
		}
	}
}

func TestNewRefusesTooManyWrites(t *testing.T) {
	c := wins(2)
	s, j := newLiving(t, c, all()), newJudge(t, c)
	bad := pairs(17)
	bad[16].Cell = 20
	for _, writes := range [][]api.Pair{pairs(17), pairs(18), pairs(20), pairs(21), make([]api.Pair, 17), make([]api.Pair, 500), bad} {
		for _, slot := range []int{0, 1, 2, -1} {
			wantRefused(t, s, j, commit.Of{Slot: slot, Gen: 1, Thread: 1, Stamp: 5, Writes: writes}, api.ErrMany)
		}
	}
}

func TestNewRefusesASlot(t *testing.T) {
	for n := 1; n <= 8; n++ {
		c := wins(n)
		s, j := newLiving(t, c, all()), newJudge(t, c)
		for _, slot := range []int{-1, n, n + 1, 9, math.MinInt, math.MaxInt, 1 << 32} {
			for _, writes := range [][]api.Pair{pairs(1), pairs(16), {{Cell: 2}, {Cell: 2}}, {{Cell: -1}}} {
				wantRefused(t, s, j, commit.Of{Slot: slot, Gen: 1, Thread: 1, Stamp: 5, Writes: writes}, api.ErrPlace)
			}
		}
	}
}

func TestNewRefusesACell(t *testing.T) {
	for _, cells := range []int{1, 2, 20, 255, 256} {
		c := wins(2)
		c.Cells = cells
		s, j := newLiving(t, c, all()), newJudge(t, c)
		for _, cell := range []int{-1, cells, cells + 1, 256, math.MinInt, math.MaxInt, 1 << 32} {
			n := min(cells, 16)
			for at := range n {
				writes := pairs(n)
				writes[at].Cell = cell
				wantRefused(t, s, j, ofSlot(0, writes...), api.ErrPlace)
				wantRefused(t, s, j, ofSlot(0, writes[at]), api.ErrPlace)
				// One that there is not is named ahead of one that stands twice.
				writes[(at+1)%n].Cell = writes[(at+2)%n].Cell
				writes[at].Cell = cell
				wantRefused(t, s, j, ofSlot(0, writes...), api.ErrPlace)
			}
		}
		wantRefused(t, s, j, ofSlot(0, api.Pair{Cell: -1}, api.Pair{Cell: -1}), api.ErrPlace)
	}
}

func TestNewRefusesACellThatStandsTwice(t *testing.T) {
	c := wins(2)
	s, j := newLiving(t, c, all()), newJudge(t, c)
	for n := 2; n <= 16; n++ {
		for i := range n {
			for k := range i {
				writes := pairs(n)
				writes[i].Cell = writes[k].Cell
				wantRefused(t, s, j, ofSlot(0, writes...), api.ErrArg)
				writes[i].X = writes[k].X
				wantRefused(t, s, j, ofSlot(0, writes...), api.ErrArg)
			}
		}
	}
}

func TestNewTakesAtTheEdges(t *testing.T) {
	for _, n := range []int{1, 2, 8} {
		c := wins(n)
		c.Cells = 256
		s, j := newLiving(t, c, all()), newJudge(t, c)
		log, view := s.Log(), s.View()
		for slot := range n {
			for _, thread := range []int{1, 2, 8} {
				for _, stamp := range []int{1, 2, math.MaxInt} {
					for _, gen := range []int{0, 1, -1, math.MinInt, math.MaxInt} {
						for _, writes := range [][]api.Pair{pairs(1), pairs(15), pairs(16), {{Cell: 255}}, {{Cell: 255}, {Cell: 0}}} {
							x := newCommit(t, s, j, commit.Of{Slot: slot, Gen: gen, Thread: thread, Stamp: stamp, Writes: writes})
							wantUnderWay(t, x, false, 0)
							wantVictims(t, x)
						}
					}
				}
			}
		}
		wantLog(t, s, log)
		wantView(t, s, view)
		wantDefers(t, j, 0)
	}
}

func TestValuesMayBeTheSame(t *testing.T) {
	c := wins(1)
	s, j := newLiving(t, c, all()), newJudge(t, c)
	x := newCommit(t, s, j, ofSlot(0, api.Pair{Cell: 1, X: 7}, api.Pair{Cell: 0, X: 7}))
	goOn(t, x, 6)
	wantEnd(t, s, x, api.OK)
	if v := s.View().Cells; v[0] != 7 || v[1] != 7 {
		t.Error(v)
	}
}

func TestNewMayBeAskedAtAnyMoment(t *testing.T) {
	c := wins(2)
	s, j := newLiving(t, c, all()), newJudge(t, c)
	s.Slots().Doom(0, 1, 2)
	s.Gate().Take(5)
	log, view := s.Log(), s.View()
	x := newCommit(t, s, j, ofSlot(0, pairs(1)...))
	wantUnderWay(t, x, false, 0)
	s.Slots().Free(0, 1)
	newCommit(t, s, j, ofSlot(0, pairs(1)...))
	view.Slots[0].Head = api.Head{Gen: 1}
	wantView(t, s, view)
	wantLog(t, s, append(log, headTrade(0, true)))
}

func TestWritesThatAreHandedInAreNotKept(t *testing.T) {
	c := wins(2)
	for at := range 9 {
		s, j := newLiving(t, c, all()), newJudge(t, c)
		room := append(pairs(3), api.Pair{Cell: 9, X: 99}, api.Pair{Cell: 10, X: 98})
		want := slices.Clone(room)
		x := newCommit(t, s, j, ofSlot(0, room[:3]...))
		goOn(t, x, at)
		if !slices.Equal(room, want) {
			t.Error(at, room)
		}
		for i := range room {
			room[i] = api.Pair{Cell: 12 + i, X: -1}
		}
		spoiled := slices.Clone(room)
		finish(t, x)
		wantEnd(t, s, x, api.OK)
		if !slices.Equal(room, spoiled) {
			t.Error(at, room)
		}
		view := s.View()
		for cell, v := range view.Cells {
			if cell < 3 && v != want[cell].X || cell >= 3 && v != int64(1000+cell) {
				t.Error(at, cell, v)
			}
		}
	}
}

// P13.2

func TestTakeWaitsAsLongAsTheGateIsHeld(t *testing.T) {
	for by := 1; by <= 8; by++ {
		for _, waits := range []int{0, 1, 2, 7} {
			c := wins(1)
			s, j := newLiving(t, c, all()), newJudge(t, c)
			x := newCommit(t, s, j, ofSlot(0, pairs(1)...))
			// Its own thread's hold counts as well: one that was taken elsewhere.
			s.Gate().Take(by)
			view := s.View()
			for range waits {
				wantSteps(t, s, x, wait(gateTrade(false)))
				wantUnderWay(t, x, false, 0)
				wantView(t, s, view)
			}
			s.Gate().Give(by)
			wantSteps(t, s, x, ran(gateTrade(true))...)
			wantUnderWay(t, x, false, 3)
			view.Gate = api.Gate{Number: 3, Owner: 1}
			wantView(t, s, view)
			wantSteps(t, s, x, ran(headLook(0), store(0), gateTrade(true), headTrade(0, true))...)
			wantEnd(t, s, x, api.OK)
		}
	}
}

func TestTakeIsByItsThread(t *testing.T) {
	for thread := 1; thread <= 8; thread++ {
		c := wins(1)
		s, j := newLiving(t, c, all()), newJudge(t, c)
		o := ofSlot(0, pairs(1)...)
		// That the slot is another thread's is not asked.
		o.Thread = thread
		x := newCommit(t, s, j, o)
		for n := range 4 {
			goOn(t, x, 1)
			want := api.Gate{Number: 1, Owner: thread}
			if n == 3 {
				want = api.Gate{Number: 2}
			}
			if g := s.Gate().Now(); g != want {
				t.Error(n, g, want)
			}
		}
		goOn(t, x, 1)
		wantEnd(t, s, x, api.OK)
	}
}

// ownHeads are what may be done to a slot of generation 1 that lives, and what is not its attempt any more behind that.
func ownHeads() map[string]func(s *space.Space, slot int) {
	return map[string]func(s *space.Space, slot int){
		"doomed": func(s *space.Space, slot int) { s.Slots().Doom(slot, 1, 8) },
		"free":   func(s *space.Space, slot int) { s.Slots().Free(slot, 1) },
		"held": func(s *space.Space, slot int) {
			s.Slots().Free(slot, 1)
			s.Slots().Claim(slot, 7)
		},
		"another one": func(s *space.Space, slot int) {
			s.Slots().Free(slot, 1)
			live(s, slot, all())
		},
		"another one, doomed": func(s *space.Space, slot int) {
			s.Slots().Free(slot, 1)
			live(s, slot, all())
			s.Slots().Doom(slot, 2, 8)
		},
	}
}

func TestOwnHeadThatIsNotItsAttempts(t *testing.T) {
	for name, change := range ownHeads() {
		for _, tag := range []int{api.CommitWins, api.ReaderBias, api.Aging} {
			for n := 1; n <= 3; n++ {
				for slot := range n {
					c := config(n, tag, 0, 5)
					s, j := newLiving(t, c, all()), newJudge(t, c)
					x := newCommit(t, s, j, ofSlot(slot, pairs(2)...))
					goOn(t, x, 1)
					change(s, slot)
					view := s.View()
					freed := name == "doomed"
					wantSteps(t, s, x, ran(headLook(slot), gateTrade(true))...)
					wantUnderWay(t, x, false, 1)
					wantSteps(t, s, x, ran(headTrade(slot, freed))...)
					wantEnd(t, s, x, api.ErrDoomed)
					wantVictims(t, x)
					wantDefers(t, j, 0)
					view.Gate = api.Gate{Number: 2}
					if freed {
						view.Slots[slot].Head = api.Head{Gen: 1}
					}
					wantView(t, s, view)
				}
			}
		}
	}
}

func TestOwnIsAskedBehindTheTake(t *testing.T) {
	for name, change := range ownHeads() {
		for at := range 7 {
			c := wins(2)
			s, j := newLiving(t, c, api.Sig{}), newJudge(t, c)
			x := newCommit(t, s, j, ofSlot(0, pairs(2)...))
			goOn(t, x, at)
			change(s, 0)
			finish(t, x)
			want := api.OK
			if at < 2 {
				want = api.ErrDoomed
			}
			if x.End() != want || x.Won() != (want == api.OK) {
				t.Error(name, at, x.End(), x.Won())
			}
		}
	}
}

func TestHeldIsNotLiveAlsoOfItsGeneration(t *testing.T) {
	c := wins(1)
	s, j := newSpace(t, c), newJudge(t, c)
	s.Slots().Claim(0, 1)
	x := newCommit(t, s, j, ofSlot(0, pairs(1)...))
	wantSteps(t, s, x, ran(gateTrade(true), headLook(0), gateTrade(true), headTrade(0, true))...)
	wantEnd(t, s, x, api.ErrDoomed)
	if h := s.Slots().Now()[0].Head; h != (api.Head{Gen: 1}) {
		t.Error(h)
	}
}

func TestFreeOfAGenerationThatIsOver(t *testing.T) {
	c := wins(1)
	s, j := newSpace(t, c), newJudge(t, c)
	s.Slots().Claim(0, 1)
	s.Slots().Free(0, 1)
	// Free, and of that generation still.
	x := newCommit(t, s, j, ofSlot(0, pairs(1)...))
	wantSteps(t, s, x, ran(gateTrade(true), headLook(0), gateTrade(true), headTrade(0, false))...)
	wantEnd(t, s, x, api.ErrDoomed)
}

func TestTheOwnHeadsThreadAndStampAreNotAsked(t *testing.T) {
	c := wins(2)
	s, j := newLiving(t, c, api.Sig{}), newJudge(t, c)
	x := newCommit(t, s, j, commit.Of{Slot: 1, Gen: 1, Thread: 7, Stamp: 500, Writes: pairs(1)})
	finish(t, x)
	wantEnd(t, s, x, api.OK)
}

func TestLooksAtAllOtherSlots(t *testing.T) {
	for n := 1; n <= 8; n++ {
		for own := range n {
			c := wins(n)
			s, j := newLiving(t, c, all()), newJudge(t, c)
			x := newCommit(t, s, j, ofSlot(own, api.Pair{Cell: 4, X: 9}))
			steps := []api.Access{gateTrade(true), headLook(own)}
			var dooms []api.Access
			var victims []api.Victim
			for slot := range n {
				if slot != own {
					steps = append(steps, headLook(slot), wordLook(slot, 0), wordLook(slot, 1))
					dooms = append(dooms, headTrade(slot, true))
					victims = append(victims, victim(slot))
				}
			}
			steps = slices.Concat(steps, dooms, []api.Access{store(4), gateTrade(true), headTrade(own, true)})
			view := s.View()
			wantSteps(t, s, x, ran(steps...)...)
			wantEnd(t, s, x, api.OK)
			wantVictims(t, x, victims...)
			for slot := range n {
				h := &view.Slots[slot].Head
				h.Doomed, h.By = true, own+1
			}
			view.Slots[own].Head = api.Head{Gen: 1}
			view.Cells[4], view.Gate = 9, api.Gate{Number: 2}
			wantView(t, s, view)
		}
	}
}

func TestLookIsForTheCellsThatAreWritten(t *testing.T) {
	for _, bits := range []int{1, 2, 7, 64, 65, 127, 128} {
		for read := range 20 {
			for write := range 20 {
				c := wins(2)
				c.Bits = bits
				s, j := newLiving(t, c, api.Sig{}), newJudge(t, c)
				words := sigOf(t, bits, read)
				s.Slots().Put(1, 0, words[0])
				s.Slots().Put(1, 1, words[1])
				// Two writes, so that the second one counts as the first one does.
				other := (write + 7) % 20
				x := newCommit(t, s, j, ofSlot(0, api.Pair{Cell: write}, api.Pair{Cell: other}))
				finish(t, x)
				want := meet(words, sigOf(t, bits, write)) || meet(words, sigOf(t, bits, other))
				if met := len(x.Victims()) == 1; met != want || s.Slots().Now()[1].Head.Doomed != want {
					t.Error(bits, read, write, met, want)
				}
			}
		}
	}
}

func TestThoseWhoAreNotVictims(t *testing.T) {
	c := wins(5)
	s, j := newSpace(t, c), newJudge(t, c)
	live(s, 2, all())
	s.Slots().Claim(0, 1)
	s.Slots().Put(0, 0, math.MaxUint64)
	live(s, 1, all())
	s.Slots().Doom(1, 1, 8)
	words := sigOf(t, 128, 0)
	live(s, 3, api.Sig{^words[0], ^words[1]})
	live(s, 4, words)
	view := s.View()
	x := newCommit(t, s, j, ofSlot(2, api.Pair{Cell: 0, X: 3}))
	wantSteps(t, s, x, ran(
		gateTrade(true), headLook(2), headLook(0), headLook(1),
		headLook(3), wordLook(3, 0), wordLook(3, 1),
		headLook(4), wordLook(4, 0), wordLook(4, 1),
		headTrade(4, true), store(0), gateTrade(true), headTrade(2, true))...)
	wantEnd(t, s, x, api.OK)
	wantVictims(t, x, victim(4))
	view.Cells[0], view.Gate = 3, api.Gate{Number: 2}
	view.Slots[4].Head.Doomed, view.Slots[4].Head.By = true, 3
	view.Slots[2].Head = api.Head{Gen: 1}
	wantView(t, s, view)
}

func TestDoomingIsRefusedWhereTheVictimHasEnded(t *testing.T) {
	changes := ownHeads()
	delete(changes, "doomed")
	for name, change := range changes {
		// From the look at its last word on up to its doom.
		for at := 8; at <= 9; at++ {
			c := wins(3)
			s, j := newLiving(t, c, all()), newJudge(t, c)
			x := newCommit(t, s, j, ofSlot(0, pairs(1)...))
			goOn(t, x, at)
			change(s, 2)
			before := s.Slots().Now()[2].Head
			goOn(t, x, 9-at)
			wantSteps(t, s, x, ran(headTrade(2, false), store(0), gateTrade(true), headTrade(0, true))...)
			wantEnd(t, s, x, api.OK)
			wantVictims(t, x, victim(1), victim(2))
			if h := s.Slots().Now()[2].Head; h != before {
				t.Error(name, h, before)
			}
		}
	}
}

func TestAVictimThatAnotherOneHasDoomedSince(t *testing.T) {
	c := wins(2)
	s, j := newLiving(t, c, all()), newJudge(t, c)
	x := newCommit(t, s, j, ofSlot(0, pairs(1)...))
	goOn(t, x, 5)
	s.Slots().Doom(1, 1, 6)
	wantSteps(t, s, x, ran(headTrade(1, true), store(0))...)
	if h := s.Slots().Now()[1].Head; h.By != 6 {
		t.Error(h)
	}
}

func TestWritesAreStoredInTheirOrder(t *testing.T) {
	for n := 1; n <= 16; n++ {
		for turn := range n {
			writes := pairs(n)
			slices.Reverse(writes)
			writes = append(writes[turn:], writes[:turn]...)
			c := wins(2)
			s, j := newLiving(t, c, api.Sig{}), newJudge(t, c)
			x := newCommit(t, s, j, ofSlot(1, writes...))
			wantSteps(t, s, x, ran(gateTrade(true), headLook(1), headLook(0), wordLook(0, 0), wordLook(0, 1))...)
			view := s.View()
			for _, w := range writes {
				wantView(t, s, view)
				wantSteps(t, s, x, ran(store(w.Cell))...)
				view.Cells[w.Cell] = w.X
			}
			wantUnderWay(t, x, false, 1)
			wantSteps(t, s, x, ran(gateTrade(true), headTrade(1, true))...)
			wantEnd(t, s, x, api.OK)
		}
	}
}

func TestValuesAtTheEdges(t *testing.T) {
	c := wins(1)
	for _, v := range []int64{0, 1, -1, math.MinInt64, math.MaxInt64, 1 << 32} {
		s, j := newLiving(t, c, all()), newJudge(t, c)
		x := newCommit(t, s, j, ofSlot(0, api.Pair{Cell: 19, X: v}))
		goOn(t, x, 5)
		if got := s.View().Cells[19]; got != v {
			t.Error(got, v)
		}
	}
}

func TestDeferGivesUp(t *testing.T) {
	for n := 2; n <= 8; n++ {
		for bias := range 9 {
			for own := range n {
				c := config(n, api.ReaderBias, bias, 1)
				s, j := newLiving(t, c, all()), newJudge(t, c)
				view := s.View()
				x := newCommit(t, s, j, ofSlot(own, pairs(2)...))
				goOn(t, x, 1+3*(n-1))
				wantDefers(t, j, 0)
				goOn(t, x, 1)
				if n-1 <= bias {
					wantDefers(t, j, 0)
					goOn(t, x, n-1+2+2)
					wantEnd(t, s, x, api.OK)
					continue
				}
				// Judged in the step of the last look, not in that of the giving up.
				wantDefers(t, j, 1)
				wantSteps(t, s, x, wait(gateTrade(true)))
				wantUnderWay(t, x, false, 1)
				wantSteps(t, s, x, ran(headTrade(own, true))...)
				wantEnd(t, s, x, api.ErrDefer)
				wantDefers(t, j, 1)
				view.Gate, view.Slots[own].Head = api.Gate{Number: 2}, api.Head{Gen: 1}
				wantView(t, s, view)
				if l := x.Victims(); len(l) != n-1 {
					t.Error(l)
				}
			}
		}
	}
}

func TestDeferredSoOftenAndNoMore(t *testing.T) {
	for _, most := range []int{0, 1, 2, 64} {
		c := config(2, api.ReaderBias, 0, most)
		s, j := newSpace(t, c), newJudge(t, c)
		live(s, 1, all())
		for k := range most + 1 {
			o := ofSlot(0, pairs(1)...)
			o.Gen = live(s, 0, api.Sig{})
			x := newCommit(t, s, j, o)
			finish(t, x)
			want := api.ErrDefer
			if k == most {
				want = api.OK
			}
			wantEnd(t, s, x, want)
			wantDefers(t, j, min(k+1, most))
			if x.Number() != 2*k+1 {
				t.Error(k, x.Number())
			}
			if doomed := s.Slots().Now()[1].Head.Doomed; doomed != (k == most) {
				t.Error(k, doomed)
			}
		}
	}
}

func TestYieldGivesUp(t *testing.T) {
	for stamp := 9; stamp <= 16; stamp++ {
		c := config(3, api.Aging, 0, 3)
		s, j := newLiving(t, c, all()), newJudge(t, c)
		view := s.View()
		o := ofSlot(1, pairs(2)...)
		// By the stamp that it was told, not by that of its head; the others have 11 and 13.
		o.Stamp = stamp
		x := newCommit(t, s, j, o)
		goOn(t, x, 8)
		if stamp <= 11 {
			goOn(t, x, 6)
			wantEnd(t, s, x, api.OK)
			continue
		}
		wantSteps(t, s, x, ran(gateTrade(true), headTrade(1, true))...)
		wantEnd(t, s, x, api.ErrYield)
		wantVictims(t, x, victim(0), victim(2))
		wantDefers(t, j, 0)
		view.Gate, view.Slots[1].Head = api.Gate{Number: 2}, api.Head{Gen: 1}
		wantView(t, s, view)
	}
}

func TestOneSlotIsJudgedInTheStepOfOwn(t *testing.T) {
	for _, tag := range []int{api.CommitWins, api.ReaderBias, api.Aging} {
		for _, most := range []int{0, 64} {
			c := config(1, tag, 0, most)
			s, j := newLiving(t, c, all()), newJudge(t, c)
			x := newCommit(t, s, j, ofSlot(0, pairs(3)...))
			wantSteps(t, s, x, ran(
				gateTrade(true), headLook(0), store(0), store(1), store(2), gateTrade(true), headTrade(0, true))...)
			wantEnd(t, s, x, api.OK)
			wantVictims(t, x)
			wantDefers(t, j, 0)
		}
	}
}

func TestNoVictimsAreWrittenOverAtOnce(t *testing.T) {
	for _, tag := range []int{api.CommitWins, api.ReaderBias, api.Aging} {
		c := config(3, tag, 0, 9)
		s, j := newLiving(t, c, api.Sig{}), newJudge(t, c)
		s.Slots().Doom(2, 1, 7)
		x := newCommit(t, s, j, ofSlot(0, pairs(1)...))
		wantSteps(t, s, x, ran(
			gateTrade(true), headLook(0), headLook(1), wordLook(1, 0), wordLook(1, 1), headLook(2),
			store(0), gateTrade(true), headTrade(0, true))...)
		wantEnd(t, s, x, api.OK)
		wantVictims(t, x)
	}
}

func TestAGateThatOthersGaveBackChangesNothing(t *testing.T) {
	for _, taken := range []bool{false, true} {
		c := wins(1)
		s, j := newLiving(t, c, all()), newJudge(t, c)
		x := newCommit(t, s, j, ofSlot(0, pairs(1)...))
		goOn(t, x, 2)
		s.Gate().Give(1)
		want := api.Gate{Number: 2}
		if taken {
			s.Gate().Take(5)
			want = api.Gate{Number: 3, Owner: 5}
		}
		wantSteps(t, s, x, ran(store(0), gateTrade(false))...)
		wantUnderWay(t, x, true, 1)
		wantSteps(t, s, x, ran(headTrade(0, true))...)
		wantEnd(t, s, x, api.OK)
		if g := s.Gate().Now(); g != want {
			t.Error(g, want)
		}
	}
	// Giving up likewise: it waits all the same, if it is deferred.
	c := config(2, api.ReaderBias, 0, 1)
	s, j := newLiving(t, c, all()), newJudge(t, c)
	x := newCommit(t, s, j, ofSlot(0, pairs(1)...))
	goOn(t, x, 5)
	s.Gate().Give(1)
	wantSteps(t, s, x, wait(gateTrade(false)))
	wantSteps(t, s, x, ran(headTrade(0, true))...)
	wantEnd(t, s, x, api.ErrDefer)
}

func TestASlotThatOthersFreedChangesNothing(t *testing.T) {
	for name, change := range ownHeads() {
		c := wins(1)
		s, j := newLiving(t, c, all()), newJudge(t, c)
		x := newCommit(t, s, j, ofSlot(0, pairs(1)...))
		goOn(t, x, 4)
		change(s, 0)
		before := s.Slots().Now()[0].Head
		freed := name == "doomed"
		wantSteps(t, s, x, ran(headTrade(0, freed))...)
		wantEnd(t, s, x, api.OK)
		if freed {
			before = api.Head{Gen: 1}
		}
		if h := s.Slots().Now()[0].Head; h != before {
			t.Error(name, h, before)
		}
	}
}

func TestStepsAreNotedInTheStepThatWasBegun(t *testing.T) {
	c := config(2, api.ReaderBias, 0, 1)
	s, j := newLiving(t, c, all()), newJudge(t, c)
	log := s.Log()
	x := newCommit(t, s, j, ofSlot(0, pairs(1)...))
	want := []api.Access{gateTrade(true), headLook(0), headLook(1), wordLook(1, 0), wordLook(1, 1), gateTrade(true), headTrade(0, true)}
	for i := range want {
		want[i].Step, want[i].Thread = i+1, 1+i%8
		s.Turn(want[i].Thread)
		x.Step()
		if s.Done() != 1 {
			t.Error("accesses", s.Done())
		}
	}
	s.Turn(1)
	wantEnd(t, s, x, api.ErrDefer)
	wantLog(t, s, append(log, want...))
	if s.Done() != 0 {
		t.Error("accesses of one that is done", s.Done())
	}
}

func TestACommitNotesNoEvents(t *testing.T) {
	c := wins(2)
	s, j := newLiving(t, c, all()), newJudge(t, c)
	finish(t, newCommit(t, s, j, ofSlot(0, pairs(3)...)))
	if l := s.Events(); len(l) != 0 {
		t.Error(l)
	}
}

// P13.3

func TestWhatIsToldBehindEachStep(t *testing.T) {
	c := wins(3)
	s, j := newLiving(t, c, all()), newJudge(t, c)
	s.Gate().Take(8)
	s.Gate().Give(8)
	x := newCommit(t, s, j, ofSlot(1, pairs(2)...))
	both := []api.Victim{victim(0), victim(2)}
	// Of each step: the number, the victims and whether it has won behind it.
	steps := []struct {
		number, victims int
		won             bool
	}{
		{0, 0, false}, {3, 0, false}, {3, 0, false},
		{3, 0, false}, {3, 0, false}, {3, 1, false},
		{3, 1, false}, {3, 1, false}, {3, 2, false},
		{3, 2, false}, {3, 2, false},
		{3, 2, false}, {3, 2, false},
		{3, 2, true},
	}
	for i, want := range steps {
		if i > 0 {
			goOn(t, x, 1)
		}
		wantUnderWay(t, x, want.won, want.number)
		wantVictims(t, x, both[:want.victims]...)
	}
	goOn(t, x, 1)
	wantEnd(t, s, x, api.OK)
	wantVictims(t, x, both...)
	if !x.Won() || x.Number() != 3 {
		t.Error(x.Won(), x.Number())
	}
}

func TestNumberStaysWhatItTook(t *testing.T) {
	for k := range 5 {
		c := wins(1)
		s, j := newLiving(t, c, all()), newJudge(t, c)
		for range k {
			s.Gate().Take(3)
			s.Gate().Give(3)
		}
		x := newCommit(t, s, j, ofSlot(0, pairs(1)...))
		finish(t, x)
		s.Gate().Take(4)
		s.Gate().Give(4)
		if x.Number() != 2*k+1 {
			t.Error(k, x.Number())
		}
	}
}

func TestAskingMakesNoAccess(t *testing.T) {
	c := config(2, api.ReaderBias, 0, 1)
	s, j := newLiving(t, c, all()), newJudge(t, c)
	x := newCommit(t, s, j, ofSlot(0, pairs(1)...))
	for range 9 {
		log, view := s.Log(), s.View()
		for range 3 {
			x.Done()
			x.End()
			x.Won()
			x.Number()
			x.Victims()
		}
		wantLog(t, s, log)
		wantView(t, s, view)
		x.Step()
	}
}

func TestVictimsAreAnsweredAnew(t *testing.T) {
	c := wins(4)
	s, j := newLiving(t, c, all()), newJudge(t, c)
	x := newCommit(t, s, j, ofSlot(0, pairs(1)...))
	want := []api.Victim{victim(1), victim(2), victim(3)}
	spoil := func(l []api.Victim) {
		l = l[:cap(l)]
		for i := range l {
			l[i] = api.Victim{Slot: 3, Gen: -1, Stamp: -1, Thread: -1}
		}
	}
	goOn(t, x, 2)
	for n := range 4 {
		one, other := x.Victims(), x.Victims()
		spoil(one)
		if !slices.Equal(other, want[:n]) {
			t.Error(other)
		}
		wantVictims(t, x, want[:n]...)
		if n < 3 {
			goOn(t, x, 3)
		}
		spoil(other)
	}
	wantVictims(t, x, want...)
	goOn(t, x, 6)
	wantEnd(t, s, x, api.OK)
	for slot := 1; slot < 4; slot++ {
		if h := s.Slots().Now()[slot].Head; !h.Doomed || h.By != 1 {
			t.Error(slot, h)
		}
	}
}

// P13.4

func TestMost(t *testing.T) {
	for n := 1; n <= 8; n++ {
		for writes := 0; writes <= 16; writes++ {
			for _, tag := range []int{api.CommitWins, api.ReaderBias, api.Aging} {
				if got, want := commit.Most(config(n, tag, 8, 64), writes), 4*(n-1)+writes+3; got != want {
					t.Error(n, writes, got, want)
				}
			}
		}
	}
}

func TestMostOfWhatMayNotBe(t *testing.T) {
	for _, writes := range []int{-1, 17, 18, math.MinInt, math.MaxInt, 1 << 32} {
		if n := commit.Most(wins(2), writes); n != 0 {
			t.Error(writes, n)
		}
	}
	wrong := map[string]func(c *api.Config, v int){
		"cells": func(c *api.Config, v int) { c.Cells = v },
		"slots": func(c *api.Config, v int) { c.Slots = v },
		"bits":  func(c *api.Config, v int) { c.Bits = v },
		"tag":   func(c *api.Config, v int) { c.Tag = v },
		"bias":  func(c *api.Config, v int) { c.Bias = v },
		"defer": func(c *api.Config, v int) { c.Defer = v },
	}
	least := map[string]int{"bias": 0, "defer": 0, "cells": 1, "slots": 1, "bits": 1, "tag": 1}
	most := map[string]int{"bias": 8, "defer": 64, "cells": 256, "slots": 8, "bits": 128, "tag": 3}
	for name, set := range wrong {
		for _, v := range []int{least[name] - 1, most[name] + 1, math.MinInt, math.MaxInt} {
			for writes := -1; writes <= 17; writes++ {
				c := wins(2)
				set(&c, v)
				if n := commit.Most(c, writes); n != 0 {
					t.Error(name, v, writes, n)
				}
			}
		}
		for _, v := range []int{least[name], most[name]} {
			c := wins(2)
			set(&c, v)
			if n := commit.Most(c, 5); n != 4*(c.Slots-1)+8 {
				t.Error(name, v, n)
			}
		}
	}
}

func TestMostIsReached(t *testing.T) {
	for n := 1; n <= 8; n++ {
		for writes := 1; writes <= 16; writes++ {
			c := wins(n)
			s, j := newLiving(t, c, all()), newJudge(t, c)
			x := newCommit(t, s, j, ofSlot(n-1, pairs(writes)...))
			goOn(t, x, 1)
			if steps := finish(t, x); steps != commit.Most(c, writes) {
				t.Error(n, writes, steps, commit.Most(c, writes))
			}
			wantEnd(t, s, x, api.OK)
		}
	}
}

// The chapter's examples

func TestExampleOfOneSlot(t *testing.T) {
	c := api.Config{Cells: 1, Slots: 1, Bits: 128, Tag: api.CommitWins}
	s, j := newSpace(t, c), newJudge(t, c)
	s.Slots().Claim(0, 1)
	s.Slots().Ready(0, 1, 5)
	x := newCommit(t, s, j, commit.Of{Slot: 0, Gen: 1, Thread: 1, Stamp: 5, Writes: []api.Pair{{Cell: 0, X: 7}}})
	wantSteps(t, s, x, ran(gateTrade(true), headLook(0), store(0), gateTrade(true), headTrade(0, true))...)
	wantEnd(t, s, x, api.OK)
	v := s.View()
	if x.Number() != 1 || v.Gate.Number != 2 || v.Cells[0] != 7 {
		t.Error(x.Number(), v)
	}
}

func TestExampleOfADeferredOne(t *testing.T) {
	c := config(2, api.ReaderBias, 0, 1)
	s, j := newLiving(t, c, sigOf(t, 128, 3)), newJudge(t, c)
	view := s.View()
	x := newCommit(t, s, j, ofSlot(0, api.Pair{Cell: 3, X: 7}))
	looks := []api.Access{gateTrade(true), headLook(0), headLook(1), wordLook(1, 0), wordLook(1, 1)}
	wantSteps(t, s, x, ran(looks...)...)
	wantSteps(t, s, x, wait(gateTrade(true)))
	wantSteps(t, s, x, ran(headTrade(0, true))...)
	wantEnd(t, s, x, api.ErrDefer)
	if v := s.View(); !slices.Equal(v.Cells, view.Cells) {
		t.Error(v.Cells)
	}

	o := ofSlot(0, api.Pair{Cell: 3, X: 7})
	o.Gen = live(s, 0, api.Sig{})
	x = newCommit(t, s, j, o)
	wantSteps(t, s, x, ran(append(looks, headTrade(1, true), store(3), gateTrade(true), headTrade(0, true))...)...)
	wantEnd(t, s, x, api.OK)
}

func TestExampleOfWhatIsRefused(t *testing.T) {
	c := wins(2)
	s, j := newLiving(t, c, all()), newJudge(t, c)
	wantRefused(t, s, j, ofSlot(0), api.ErrArg)
	wantRefused(t, s, j, ofSlot(0, api.Pair{}, api.Pair{X: 1}), api.ErrArg)
	wantRefused(t, s, j, ofSlot(0, pairs(17)...), api.ErrMany)
	wantRefused(t, s, j, ofSlot(0, api.Pair{Cell: -1}), api.ErrPlace)
}
