package look_test

import (
	"math"
	"math/rand"
	"slices"
	"testing"

	"quash/api"
	"quash/look"
)

// P12.3

func TestNewDoomRefusesAThread(t *testing.T) {
	s := newLiving(t, 2, all())
	log, view := s.Log(), s.View()
	for _, by := range []int{0, -1, 9, 10, 256, math.MinInt, math.MaxInt, math.MinInt32, 1<<32 + 1} {
		for _, victims := range [][]api.Victim{nil, {}, {{Slot: 1, Gen: 1}}, {{Slot: 2, Gen: 1}}, {{Slot: -1}, {Slot: 1}}} {
			if x, e := look.NewDoom(s, by, victims); x != nil || e != api.ErrArg {
				t.Error(by, victims, x, e)
			}
		}
	}
	wantLog(t, s, log)
	wantView(t, s, view)
}

func TestNewDoomRefusesAPlace(t *testing.T) {
	for n := 1; n <= 8; n++ {
		s := newLiving(t, n, all())
		log, view := s.Log(), s.View()
		for _, slot := range []int{-1, n, n + 1, 8, 9, math.MinInt, math.MaxInt, math.MinInt32, 1 << 32} {
			for at := range 4 {
				victims := slices.Repeat([]api.Victim{{Slot: n - 1, Gen: 1}}, 4)
				victims[at].Slot = slot
				for _, l := range [][]api.Victim{victims, victims[at : at+1]} {
					if x, e := look.NewDoom(s, 8, l); x != nil || e != api.ErrPlace {
						t.Error(n, l, x, e)
					}
				}
			}
		}
		wantLog(t, s, log)
		wantView(t, s, view)
	}
}

func TestNewDoomTakesAtTheEdges(t *testing.T) {
	for _, n := range []int{1, 2, 8} {
		for by := 1; by <= 8; by++ {
			for slot := range n {
				s := newLiving(t, n, api.Sig{})
				log, view := s.Log(), s.View()
				victims := []api.Victim{{Slot: slot, Gen: 1}}
				x := newDoom(t, s, by, victims)
				wantUnderWay(t, x)
				wantList(t, x.Doomed(), nil)
				wantLog(t, s, log)
				wantView(t, s, view)
				goOn(t, x, 1)
				view.Slots[slot].Head.Doomed, view.Slots[slot].Head.By = true, by
				wantView(t, s, view)
				wantEnd(t, s, x)
				wantList(t, x.Doomed(), victims)
			}
		}
	}
}

func TestNoVictimsAreDoomedAtOnce(t *testing.T) {
	s := newLiving(t, 2, all())
	log := s.Log()
	for _, victims := range [][]api.Victim{nil, {}, make([]api.Victim, 0, 4)} {
		x := newDoom(t, s, 3, victims)
		wantEnd(t, s, x)
		wantList(t, x.Doomed(), nil)
	}
	wantLog(t, s, log)
}

func TestVictimsThatAreHandedInAreNotKept(t *testing.T) {
	s := newLiving(t, 4, all())
	room := []api.Victim{{Slot: 2, Gen: 1, Stamp: 5, Thread: 6}, {Slot: 1, Gen: 1, Stamp: 7, Thread: 8}, {Slot: 3, Gen: 1}}
	want := slices.Clone(room)
	x := newDoom(t, s, 4, room[:2])
	goOn(t, x, 1)
	wantList(t, room, want)
	spoil(room)
	goOn(t, x, 1)
	wantEnd(t, s, x)
	wantList(t, x.Doomed(), want[:2])
	spoil(x.Doomed())
	for _, v := range room {
		if v.Slot != -1 {
			t.Error("what was handed in is changed", room)
		}
	}
	if h := s.Slots().Now()[3].Head; h.Doomed {
		t.Error("one of the spare room is doomed", h)
	}
}

func TestVictimsAreLookedAtByNothingButSlotAndGen(t *testing.T) {
	numbers := []int{0, 1, -1, 12, math.MinInt, math.MaxInt}
	for _, stamp := range numbers {
		for _, thread := range numbers {
			s := newLiving(t, 2, api.Sig{})
			victims := []api.Victim{{Slot: 1, Gen: 1, Stamp: stamp, Thread: thread}}
			x := newDoom(t, s, 2, victims)
			goOn(t, x, 1)
			wantEnd(t, s, x)
			wantList(t, x.Doomed(), victims)
			want := api.Head{Gen: 1, State: api.Live, Stamp: 12, Thread: 2, Doomed: true, By: 2}
			if h := s.Slots().Now()[1].Head; h != want {
				t.Error(stamp, thread, h)
			}
		}
	}
}

// P12.4

func TestEveryKindOfSlotIsDoomedOrNot(t *testing.T) {
	for kind := range numberOfKinds {
		for slot := range 3 {
			own := slot + 1
			for _, gen := range []int{own, own - 1, own + 1, -own, 0, math.MinInt, math.MaxInt, own + 1<<32} {
				s := newSpace(t, 3)
				set(s, slot, kind)
				log, view := s.Log(), s.View()
				victims := []api.Victim{{Slot: slot, Gen: gen, Stamp: 3, Thread: 4}}
				x := newDoom(t, s, 5, victims)
				goOn(t, x, 1)
				ok := kind >= 2 && gen == own
				wantLog(t, s, append(log, trade(slot, ok)))
				if h := &view.Slots[slot].Head; ok && !h.Doomed {
					h.Doomed, h.By = true, 5
				}
				wantView(t, s, view)
				wantEnd(t, s, x)
				if ok {
					wantList(t, x.Doomed(), victims)
				} else {
					wantList(t, x.Doomed(), nil)
				}
			}
		}
	}
}

func TestVictimsAreDoomedInTheirOrder(t *testing.T) {
	s := newLiving(t, 4, api.Sig{})
	s.Slots().Free(1, 1)
	log := s.Log()
	victims := []api.Victim{{Slot: 3, Gen: 1}, {Slot: 1, Gen: 1}, {Slot: 0, Gen: 2}, {Slot: 2, Gen: 1}, {Slot: 0, Gen: 1}}
	x := newDoom(t, s, 6, victims)
	told := []api.Victim{}
	for _, v := range victims {
		wantUnderWay(t, x)
		wantList(t, x.Doomed(), told)
		goOn(t, x, 1)
		ok := v.Slot != 1 && v.Gen == 1
		log = append(log, trade(v.Slot, ok))
		wantLog(t, s, log)
		if ok {
			told = append(told, v)
		}
		for slot, one := range s.Slots().Now() {
			want := slices.Contains(told, api.Victim{Slot: slot, Gen: 1})
			if one.Head.Doomed != want {
				t.Error(v, slot, one.Head)
			}
		}
	}
	wantEnd(t, s, x)
	wantList(t, x.Doomed(), told)
}

func TestAVictimMayStandThereOften(t *testing.T) {
	s := newLiving(t, 2, api.Sig{})
	victims := slices.Repeat([]api.Victim{{Slot: 1, Gen: 1, Stamp: 12, Thread: 2}, {Slot: 1, Gen: 2}, {Slot: 0, Gen: 1}}, 400)
	log := s.Log()
	x := newDoom(t, s, 7, victims)
	var told []api.Victim
	for _, v := range victims {
		goOn(t, x, 1)
		log = append(log, trade(v.Slot, v.Gen == 1))
		if v.Gen == 1 {
			told = append(told, v)
		}
	}
	wantLog(t, s, log)
	wantEnd(t, s, x)
	wantList(t, x.Doomed(), told)
}

func TestWhoWasDoomedByAnotherStaysSo(t *testing.T) {
	s := newLiving(t, 2, api.Sig{})
	s.Slots().Doom(1, 1, 3)
	view := s.View()
	victims := []api.Victim{{Slot: 1, Gen: 1, Stamp: 12, Thread: 2}}
	x := newDoom(t, s, 5, victims)
	goOn(t, x, 1)
	wantLast(t, s, trade(1, true))
	wantView(t, s, view)
	wantList(t, x.Doomed(), victims)
}

func TestSlotsCountAsTheyAreWhenTheirTurnComes(t *testing.T) {
	s := newLiving(t, 3, api.Sig{})
	s.Slots().Free(0, 1)
	victims := []api.Victim{{Slot: 1, Gen: 1}, {Slot: 2, Gen: 1}, {Slot: 0, Gen: 2}}
	x := newDoom(t, s, 5, victims)
	goOn(t, x, 1)
	s.Slots().Free(2, 1)
	s.Slots().Claim(2, 7)
	s.Slots().Ready(2, 2, 44)
	s.Slots().Claim(0, 8)
	s.Slots().Ready(0, 2, 45)
	goOn(t, x, 2)
	wantEnd(t, s, x)
	wantList(t, x.Doomed(), []api.Victim{{Slot: 1, Gen: 1}, {Slot: 0, Gen: 2}})
	if h := s.Slots().Now()[2].Head; h != (api.Head{Gen: 2, State: api.Live, Stamp: 44, Thread: 7}) {
		t.Error(h)
	}
}

func TestDoomedStayToldWhenTheirSlotsAreFree(t *testing.T) {
	s := newLiving(t, 2, api.Sig{})
	victims := []api.Victim{{Slot: 1, Gen: 1}}
	x := newDoom(t, s, 5, victims)
	goOn(t, x, 1)
	s.Slots().Free(1, 1)
	wantList(t, x.Doomed(), victims)
	wantEnd(t, s, x)
}

func TestStepsOfADoomingAreNotedInTheStepThatWasBegun(t *testing.T) {
	s := newLiving(t, 2, api.Sig{})
	log := s.Log()
	x := newDoom(t, s, 5, []api.Victim{{Slot: 1, Gen: 1}, {Slot: 0, Gen: 7}})
	want := []api.Access{
		{Step: 1, Thread: 6, Kind: api.OnHead, At: 1, Op: api.OpTrade, Ok: true},
		{Step: 2, Thread: 3, Kind: api.OnHead, At: 0, Op: api.OpTrade},
	}
	for _, a := range want {
		s.Turn(a.Thread)
		goOn(t, x, 1)
		if s.Done() != 1 {
			t.Error("accesses", s.Done())
		}
	}
	s.Turn(5)
	wantEnd(t, s, x)
	wantLog(t, s, append(log, want...))
	if l := s.Events(); len(l) != 0 {
		t.Error(l)
	}
}

func TestADoomingTouchesNothingButHeads(t *testing.T) {
	s := newLiving(t, 2, api.Sig{3, 4})
	s.Fill([]int64{5, 6})
	s.Gate().Take(1)
	want := s.View()
	want.Slots[1].Head.Doomed, want.Slots[1].Head.By = true, 1
	goOn(t, newDoom(t, s, 1, []api.Victim{{Slot: 1, Gen: 1}}), 1)
	wantView(t, s, want)
}

func TestAskingADoomingMakesNoAccess(t *testing.T) {
	s := newLiving(t, 2, all())
	x := newDoom(t, s, 1, []api.Victim{{Slot: 1, Gen: 1}, {Slot: 0, Gen: 1}})
	for range 4 {
		log, view := s.Log(), s.View()
		for range 3 {
			x.Done()
			x.Doomed()
		}
		wantLog(t, s, log)
		wantView(t, s, view)
		x.Step()
	}
}

func TestDoomedAreAnsweredAnew(t *testing.T) {
	s := newLiving(t, 5, all())
	var want []api.Victim
	for slot := range 5 {
		want = append(want, api.Victim{Slot: slot, Gen: 1, Stamp: 2, Thread: 3})
	}
	x := newDoom(t, s, 1, want)
	for n := range 6 {
		one, other := x.Doomed(), x.Doomed()
		spoil(one)
		wantList(t, other, want[:n])
		wantList(t, x.Doomed(), want[:n])
		if n < 5 {
			goOn(t, x, 1)
		}
		wantList(t, other, want[:n])
		spoil(other)
	}
	wantList(t, x.Doomed(), want)
}

func TestMixedCallsAgainstAPlainDooming(t *testing.T) {
	rnd := rand.New(rand.NewSource(21))
	for range 2000 {
		n := 1 + rnd.Intn(8)
		s := newLiving(t, n, api.Sig{})
		dooms := make([]*look.Doom, 3)
		left := make([][]api.Victim, 3)
		told := make([][]api.Victim, 3)
		for i := range dooms {
			for range rnd.Intn(9) {
				left[i] = append(left[i], api.Victim{Slot: rnd.Intn(n), Gen: 1 + rnd.Intn(3), Stamp: rnd.Intn(9), Thread: rnd.Intn(9)})
			}
			dooms[i] = newDoom(t, s, i+1, left[i])
		}
		for range 40 {
			if rnd.Intn(2) == 0 {
				disturb(rnd, s, rnd.Intn(n))
				continue
			}
			i := rnd.Intn(3)
			view, log := s.View(), s.Log()
			answer := api.Idle
			if len(left[i]) > 0 {
				answer = api.Ran
				v := left[i][0]
				left[i] = left[i][1:]
				h := &view.Slots[v.Slot].Head
				ok := h.State == api.Live && h.Gen == v.Gen
				log = append(log, trade(v.Slot, ok))
				if ok {
					told[i] = append(told[i], v)
				}
				if ok && !h.Doomed {
					h.Doomed, h.By = true, i+1
				}
			}
			if a := dooms[i].Step(); a != answer {
				t.Error("answer", a, "want", answer)
			}
			wantView(t, s, view)
			wantLog(t, s, log)
			wantList(t, dooms[i].Doomed(), told[i])
			if dooms[i].Done() != (len(left[i]) == 0) {
				t.Error("done", dooms[i].Done())
			}
		}
	}
}

func TestALookAndThenADooming(t *testing.T) {
	rnd := rand.New(rand.NewSource(17))
	for range 1000 {
		n := 1 + rnd.Intn(8)
		s := newSpace(t, n)
		for slot := range n {
			set(s, slot, rnd.Intn(numberOfKinds))
		}
		own, writes := rnd.Intn(n), api.Sig{2, 1}
		want := s.View()
		for slot := range want.Slots {
			one := &want.Slots[slot]
			if slot != own && one.Head.State == api.Live && !one.Head.Doomed && meet(one.Words, writes) {
				one.Head.Doomed, one.Head.By = true, 2
			}
		}
		x := newLook(t, s, own, writes)
		end(t, x)
		d := newDoom(t, s, 2, x.Victims())
		goOn(t, d, len(x.Victims()))
		wantEnd(t, s, d)
		wantList(t, d.Doomed(), x.Victims())
		wantView(t, s, want)
		// Whom it has doomed it does not meet again.
		y := newLook(t, s, own, writes)
		end(t, y)
		wantList(t, y.Victims(), nil)
	}
}

func TestSpacesOfDoomingsHaveNothingInCommon(t *testing.T) {
	one, other := newLiving(t, 2, all()), newLiving(t, 2, all())
	view := other.View()
	x := newDoom(t, one, 1, []api.Victim{{Slot: 1, Gen: 1}})
	y := newDoom(t, other, 2, []api.Victim{{Slot: 1, Gen: 2}})
	goOn(t, x, 1)
	goOn(t, y, 1)
	wantView(t, other, view)
	wantList(t, x.Doomed(), []api.Victim{{Slot: 1, Gen: 1}})
	wantList(t, y.Doomed(), nil)
}

// The chapter's examples

func TestExampleOfADooming(t *testing.T) {
	victims := []api.Victim{{Slot: 1, Gen: 2, Stamp: 9, Thread: 4}}
	s := exampleSpace(t)
	x := newDoom(t, s, 5, victims)
	goOn(t, x, 1)
	wantEnd(t, s, x)
	wantList(t, x.Doomed(), victims)
	s.Slots().Free(1, 2)
	x = newDoom(t, s, 5, victims)
	goOn(t, x, 1)
	wantEnd(t, s, x)
	wantList(t, x.Doomed(), nil)
	if x, e := look.NewDoom(s, 0, victims); x != nil || e != api.ErrArg {
		t.Error(x, e)
	}
}
