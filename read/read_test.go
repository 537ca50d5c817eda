package read_test

import (
	"math"
	"math/rand"
	"slices"
	"testing"

	"quash/api"
	"quash/read"
	"quash/sig"
	"quash/space"
)

// P11.1

func TestNewRefuses(t *testing.T) {
	for _, n := range []int{1, 2, 8} {
		for _, cells := range []int{1, 3, 256} {
			s := newSpace(t, cells, n, 128)
			for _, cell := range []int{-1, cells, cells + 1, 256, 257, math.MinInt, math.MaxInt, math.MinInt32, 1 << 32} {
				wantRefused(t, s, read.From{Gen: 1, Seen: 1}, cell)
				wantRefused(t, s, read.From{Slot: n, Gen: 1}, cell)
			}
			for _, slot := range []int{-1, n, n + 1, 8, 9, math.MinInt, math.MaxInt, math.MinInt32, 1 << 32} {
				wantRefused(t, s, read.From{Slot: slot, Gen: 1, Seen: 1}, 0)
				wantRefused(t, s, read.From{Slot: slot}, cells-1)
			}
		}
	}
}

func TestNewTakesAtTheEdges(t *testing.T) {
	for _, bits := range []int{1, 64, 65, 128} {
		s := newSpace(t, 256, 8, bits)
		s.Fill(numbered(256))
		for _, cell := range []int{0, 255} {
			for _, slot := range []int{0, 7} {
				f := read.From{Slot: slot, Gen: 1}
				log, view := s.Log(), s.View()
				x := newRead(t, s, f, cell)
				wantUnderWay(t, x, f)
				wantLog(t, s, log)
				wantView(t, s, view)
				end(t, x)
				wantValue(t, x, int64(1000+cell))
			}
		}
	}
}

func TestNewTakesAnyGenSeenAndSig(t *testing.T) {
	numbers := []int{0, 1, 2, 3, -1, -2, math.MinInt, math.MaxInt}
	sigs := []api.Sig{{}, {1, 0}, {0, 1}, {1 << 58, 1 << 15}, {math.MaxUint64, math.MaxUint64}}
	for _, gen := range numbers {
		for _, seen := range numbers {
			for _, bits := range sigs {
				s := newSpace(t, 1, 1, 128)
				s.Fill([]int64{5})
				f := read.From{Gen: gen, Seen: seen, Sig: bits}
				log := s.Log()
				x := newRead(t, s, f, 0)
				wantUnderWay(t, x, f)
				wantLog(t, s, log)
				end(t, x)
				if gen == 1 {
					wantValue(t, x, 5)
				} else {
					wantDoomed(t, x)
				}
			}
		}
	}
}

func TestNewOfASlotThatDoesNotLiveIsUnderWay(t *testing.T) {
	for _, h := range heads() {
		s := newSpace(t, 1, 1, 128)
		setHead(s, h)
		f := read.From{Gen: 1, Seen: 1}
		wantUnderWay(t, newRead(t, s, f, 0), f)
	}
}

// P11.2

func TestStepsOfEveryCell(t *testing.T) {
	for _, bits := range []int{1, 2, 8, 63, 64, 65, 100, 127, 128} {
		for cell := range 256 {
			first, second, _ := sig.Hash(cell, bits)
			one, other := bit(first), bit(second)
			for _, has := range []api.Sig{
				{},
				one,
				other,
				sig.Join(one, other),
				sig.Minus(all(), one),
				sig.Minus(all(), other),
				sig.Minus(sig.Minus(all(), one), other),
				all(),
				{math.MaxUint64, 0},
				{0, math.MaxUint64},
			} {
				checkAlone(t, bits, cell, has, 1)
			}
			checkAlone(t, bits, cell, api.Sig{}, 0)
		}
	}
}

func TestPublishesBothTogether(t *testing.T) {
	s := newSpace(t, 1, 2, 128)
	f := read.From{Slot: 1, Gen: 1, Sig: api.Sig{6, 9}}
	log := s.Log()
	x := newRead(t, s, f, 0)
	words := []api.Sig{{0, 0}, {1<<58 | 6, 0}, {1<<58 | 6, 1<<15 | 9}}
	published := []api.Sig{{6, 9}, {1<<58 | 6, 9}, {1<<58 | 6, 1<<15 | 9}}
	for i := range words {
		if got := s.Slots().Now()[1].Words; got != words[i] {
			t.Error(i, got)
		}
		if got := s.Slots().Now()[0].Words; got != (api.Sig{}) {
			t.Error("another slot's words", got)
		}
		if got := x.From(); got != (read.From{Slot: 1, Gen: 1, Sig: published[i]}) {
			t.Error(i, got)
		}
		if i < 2 {
			goOn(t, x, 1)
		}
	}
	wantLog(t, s, append(log,
		api.Access{Kind: api.OnWord, At: 2, Op: api.OpStore, Ok: true},
		api.Access{Kind: api.OnWord, At: 3, Op: api.OpStore, Ok: true}))
}

func TestSigIsBelievedNotTheWords(t *testing.T) {
	s := newSpace(t, 1, 1, 128)
	s.Slots().Put(0, 0, 1<<58)
	s.Slots().Put(0, 1, 7)
	x := newRead(t, s, read.From{Gen: 1, Sig: api.Sig{0, 1 << 15}}, 0)
	goOn(t, x, 1)
	wantLast(t, s, api.Access{Kind: api.OnWord, At: 0, Op: api.OpStore, Ok: true})
	goOn(t, x, 1)
	wantLast(t, s, api.Access{Kind: api.OnCell, Op: api.OpLoad, Ok: true})
	if got := s.Slots().Now()[0].Words; got != (api.Sig{1 << 58, 7}) {
		t.Error(got)
	}
}

func TestPublishesWhetherTheSlotLivesOrNot(t *testing.T) {
	for _, h := range heads() {
		s := newSpace(t, 1, 1, 128)
		setHead(s, h)
		s.Gate().Take(8)
		x := newRead(t, s, read.From{Gen: 1, Seen: 1}, 0)
		goOn(t, x, 3)
		wantLast(t, s, api.Access{Kind: api.OnCell, Op: api.OpLoad, Ok: true})
		if got := s.Slots().Now()[0].Words; got != (api.Sig{1 << 58, 1 << 15}) {
			t.Error(h, got)
		}
	}
}

func TestStepsTouchNoOtherThing(t *testing.T) {
	s := newSpace(t, 3, 3, 128)
	s.Fill([]int64{5, 6, 7})
	for slot := range 3 {
		s.Slots().Put(slot, 0, uint64(slot+1))
		s.Slots().Put(slot, 1, uint64(slot+4))
	}
	want := s.View()
	bits, _ := sig.Of([]int{2}, 128)
	want.Slots[1].Words = bits
	x := newRead(t, s, read.From{Slot: 1, Gen: 1, Seen: 1}, 2)
	end(t, x)
	if len(sig.Touched(api.Sig{}, bits)) != 2 {
		t.Fatal("cell 2 has a bit in each word")
	}
	wantView(t, s, want)
	wantValue(t, x, 7)
}

func TestWaitsAsLongAsTheGateIsHeld(t *testing.T) {
	for _, owner := range []int{1, 2, 8} {
		for _, seen := range []int{-1, 0, 1, 2, 3, 4, math.MaxInt} {
			s := newSpace(t, 1, 1, 128)
			giveTimes(s, 1)
			s.Gate().Take(owner)
			x := newRead(t, s, read.From{Gen: 1, Seen: seen, Sig: all()}, 0)
			goOn(t, x, 1)
			for range 5 {
				before := x.From()
				if a := x.Step(); a != api.Wait {
					t.Error(owner, seen, a)
				}
				wantLast(t, s, api.Access{Kind: api.OnGate, Op: api.OpLoad, Ok: true})
				wantUnderWay(t, x, before)
			}
			s.Gate().Give(owner)
			goOn(t, x, 1)
			wantLast(t, s, api.Access{Kind: api.OnGate, Op: api.OpLoad, Ok: true})
			if got := x.From().Seen; got != 4 {
				t.Error(owner, seen, got)
			}
			goOn(t, x, 1)
			if seen == 4 {
				wantLast(t, s, api.Access{Kind: api.OnHead, Op: api.OpLoad, Ok: true})
				wantValue(t, x, 0)
				continue
			}
			wantLast(t, s, api.Access{Kind: api.OnCell, Op: api.OpLoad, Ok: true})
			goOn(t, x, 2)
			wantValue(t, x, 0)
		}
	}
}

func TestAGateThatIsHeldIsNotAskedForBeforeItsTurn(t *testing.T) {
	s := newSpace(t, 1, 1, 128)
	s.Gate().Take(2)
	x := newRead(t, s, read.From{Gen: 1, Seen: 1}, 0)
	goOn(t, x, 3)
	if a := x.Step(); a != api.Wait {
		t.Error(a)
	}
	s = newSpace(t, 1, 1, 128)
	x = newRead(t, s, read.From{Gen: 1, Sig: all()}, 0)
	goOn(t, x, 2)
	s.Gate().Take(2)
	goOn(t, x, 1)
	wantValue(t, x, 0)
}

func TestLoadsAgainAsOftenAsTheGateIsAnother(t *testing.T) {
	s := newSpace(t, 1, 1, 128)
	x := newRead(t, s, read.From{Gen: 1, Seen: 1, Sig: all()}, 0)
	log := s.Log()
	for n := range 20 {
		s.Store(0, int64(n+100))
		goOn(t, x, 2)
		log = append(log,
			api.Access{Kind: api.OnCell, Op: api.OpStore, Ok: true},
			api.Access{Kind: api.OnCell, Op: api.OpLoad, Ok: true},
			api.Access{Kind: api.OnGate, Op: api.OpLoad, Ok: true})
		wantLog(t, s, log)
		wantUnderWay(t, x, read.From{Gen: 1, Seen: 2 * n, Sig: all()})
		giveTimes(s, 1)
		log = s.Log()
	}
	goOn(t, x, 2)
	goOn(t, x, 3)
	wantValue(t, x, 119)
	wantFrom(t, x, read.From{Gen: 1, Seen: 40, Sig: all()})
}

func TestValueIsWhatWasLoadedLast(t *testing.T) {
	s := newSpace(t, 1, 1, 128)
	x := newRead(t, s, read.From{Gen: 1, Seen: 1, Sig: all()}, 0)
	for i := range 5 {
		s.Store(0, int64(10+i))
		goOn(t, x, 1)
	}
	s.Store(0, 99)
	wantValue(t, x, 12)
}

func TestValuesOfAllSizes(t *testing.T) {
	for _, v := range []int64{0, 1, -1, 5, math.MinInt64, math.MaxInt64, 1 << 32, -1 << 32} {
		s := newSpace(t, 2, 1, 128)
		s.Fill([]int64{v, 7})
		x := newRead(t, s, read.From{Gen: 1, Seen: 1}, 0)
		end(t, x)
		wantValue(t, x, v)
	}
}

func TestHeadsThatEndWithAnError(t *testing.T) {
	for _, h := range heads() {
		for gen := -1; gen <= 4; gen++ {
			s := newSpace(t, 1, 1, 128)
			s.Fill([]int64{5})
			setHead(s, h)
			x := newRead(t, s, read.From{Gen: gen, Sig: all()}, 0)
			log := s.Log()
			goOn(t, x, 3)
			wantLog(t, s, append(log,
				api.Access{Kind: api.OnCell, Op: api.OpLoad, Ok: true},
				api.Access{Kind: api.OnGate, Op: api.OpLoad, Ok: true},
				api.Access{Kind: api.OnHead, Op: api.OpLoad, Ok: true}))
			now := s.Slots().Now()[0].Head
			if now.State == api.Live && now.Gen == gen && !now.Doomed {
				wantValue(t, x, 5)
			} else {
				wantDoomed(t, x)
			}
			wantFrom(t, x, read.From{Gen: gen, Sig: all()})
		}
	}
}

func TestHeadIsTheOwnSlots(t *testing.T) {
	for own := range 8 {
		for doomed := range 8 {
			s := newSpace(t, 1, 8, 128)
			s.Slots().Doom(doomed, 1, 3)
			x := newRead(t, s, read.From{Slot: own, Gen: 1, Sig: all()}, 0)
			goOn(t, x, 3)
			wantLast(t, s, api.Access{Kind: api.OnHead, At: own, Op: api.OpLoad, Ok: true})
			if own == doomed {
				wantDoomed(t, x)
			} else {
				wantValue(t, x, 0)
			}
		}
	}
}

func TestHeadCountsAsItIsInTheLastStep(t *testing.T) {
	for at := range 8 {
		s := newSpace(t, 1, 1, 128)
		s.Fill([]int64{5})
		x := newRead(t, s, read.From{Gen: 1, Seen: 1}, 0)
		goOn(t, x, at)
		s.Slots().Doom(0, 1, 4)
		goOn(t, x, 7-at)
		if at < 7 {
			wantDoomed(t, x)
		} else {
			wantValue(t, x, 5)
		}
		wantIdle(t, x)
	}
}

func TestASlotThatIsAnothersNow(t *testing.T) {
	for at := range 7 {
		s := newSpace(t, 1, 1, 128)
		x := newRead(t, s, read.From{Gen: 1, Seen: 1}, 0)
		goOn(t, x, at)
		s.Slots().Free(0, 1)
		s.Slots().Claim(0, 1)
		s.Slots().Ready(0, 2, 1)
		goOn(t, x, 7-at)
		wantDoomed(t, x)
	}
}

func TestASlotThatComesToLiveMeanwhile(t *testing.T) {
	s := newSpace(t, 1, 1, 128)
	s.Slots().Free(0, 1)
	x := newRead(t, s, read.From{Gen: 2, Seen: 1}, 0)
	goOn(t, x, 6)
	s.Slots().Claim(0, 1)
	s.Slots().Ready(0, 2, 1)
	goOn(t, x, 1)
	wantValue(t, x, 0)
}

func TestStepsAreNotedInTheStepThatWasBegun(t *testing.T) {
	s := newSpace(t, 1, 1, 128)
	log := s.Log()
	x := newRead(t, s, read.From{Gen: 1, Seen: 1}, 0)
	want := []api.Access{
		{Step: 1, Thread: 6, Kind: api.OnWord, At: 0, Op: api.OpStore, Ok: true},
		{Step: 2, Thread: 3, Kind: api.OnWord, At: 1, Op: api.OpStore, Ok: true},
		{Step: 3, Thread: 3, Kind: api.OnCell, Op: api.OpLoad, Ok: true},
		{Step: 4, Thread: 1, Kind: api.OnGate, Op: api.OpLoad, Ok: true},
		{Step: 5, Thread: 4, Kind: api.OnCell, Op: api.OpLoad, Ok: true},
		{Step: 6, Thread: 8, Kind: api.OnGate, Op: api.OpLoad, Ok: true},
		{Step: 7, Thread: 2, Kind: api.OnHead, Op: api.OpLoad, Ok: true},
	}
	for _, a := range want {
		s.Turn(a.Thread)
		goOn(t, x, 1)
		if s.Done() != 1 {
			t.Error("accesses", s.Done())
		}
	}
	s.Turn(5)
	wantIdle(t, x)
	if s.Done() != 0 {
		t.Error("accesses", s.Done())
	}
	wantLog(t, s, append(log, want...))
}

func TestStepsNoteNoEvent(t *testing.T) {
	s := newSpace(t, 1, 1, 128)
	end(t, newRead(t, s, read.From{Gen: 1, Seen: 1}, 0))
	end(t, newRead(t, s, read.From{Gen: 2, Seen: 1}, 0))
	if l := s.Events(); len(l) != 0 {
		t.Error(l)
	}
}

func TestStepOfOneThatIsDone(t *testing.T) {
	s := newSpace(t, 1, 2, 128)
	s.Fill([]int64{5})
	s.Slots().Doom(1, 1, 1)
	x := newRead(t, s, read.From{Gen: 1, Seen: 1}, 0)
	y := newRead(t, s, read.From{Slot: 1, Gen: 1, Seen: 1}, 0)
	end(t, x)
	end(t, y)
	s.Store(0, 6)
	s.Gate().Take(2)
	log, view := s.Log(), s.View()
	for range 9 {
		wantIdle(t, x)
		wantIdle(t, y)
		wantValue(t, x, 5)
		wantDoomed(t, y)
	}
	wantLog(t, s, log)
	wantView(t, s, view)
}

// P11.3

func TestValueAndFromAsLongAsItIsUnderWay(t *testing.T) {
	s := newSpace(t, 1, 1, 128)
	s.Fill([]int64{5})
	giveTimes(s, 3)
	x := newRead(t, s, read.From{Gen: 1, Seen: 1}, 0)
	for _, f := range []read.From{
		{Gen: 1, Seen: 1},
		{Gen: 1, Seen: 1, Sig: api.Sig{1 << 58, 0}},
		{Gen: 1, Seen: 1, Sig: api.Sig{1 << 58, 1 << 15}},
		{Gen: 1, Seen: 1, Sig: api.Sig{1 << 58, 1 << 15}},
		{Gen: 1, Seen: 6, Sig: api.Sig{1 << 58, 1 << 15}},
		{Gen: 1, Seen: 6, Sig: api.Sig{1 << 58, 1 << 15}},
		{Gen: 1, Seen: 6, Sig: api.Sig{1 << 58, 1 << 15}},
	} {
		wantUnderWay(t, x, f)
		goOn(t, x, 1)
	}
	wantValue(t, x, 5)
	wantFrom(t, x, read.From{Gen: 1, Seen: 6, Sig: api.Sig{1 << 58, 1 << 15}})
}

func TestAskingMakesNoAccess(t *testing.T) {
	s := newSpace(t, 1, 1, 128)
	x := newRead(t, s, read.From{Gen: 1, Seen: 1}, 0)
	for range 9 {
		log, view := s.Log(), s.View()
		for range 3 {
			x.Done()
			x.Value()
			x.From()
		}
		wantLog(t, s, log)
		wantView(t, s, view)
		x.Step()
	}
}

func TestValueStaysWhatItWas(t *testing.T) {
	s := newSpace(t, 1, 1, 128)
	s.Fill([]int64{5})
	x := newRead(t, s, read.From{Gen: 1, Seen: 1}, 0)
	y := newRead(t, s, read.From{Gen: 2, Seen: 1}, 0)
	end(t, x)
	end(t, y)
	s.Slots().Doom(0, 1, 3)
	s.Slots().Free(0, 1)
	s.Slots().Claim(0, 1)
	s.Slots().Ready(0, 2, 1)
	giveTimes(s, 2)
	s.Store(0, 8)
	s.Slots().Put(0, 0, 3)
	wantValue(t, x, 5)
	wantDoomed(t, y)
	wantFrom(t, x, read.From{Gen: 1, Sig: api.Sig{1 << 58, 1 << 15}})
	wantFrom(t, y, read.From{Gen: 2, Sig: api.Sig{1 << 58, 1 << 15}})
}

func TestFromIsAnsweredAnew(t *testing.T) {
	s := newSpace(t, 1, 1, 128)
	given := read.From{Gen: 1, Seen: 1}
	x := newRead(t, s, given, 0)
	given.Sig[0], given.Gen = math.MaxUint64, 7
	got := x.From()
	got.Sig[1], got.Seen = math.MaxUint64, 9
	wantUnderWay(t, x, read.From{Gen: 1, Seen: 1})
	end(t, x)
	wantFrom(t, x, read.From{Gen: 1, Sig: api.Sig{1 << 58, 1 << 15}})
	wantValue(t, x, 0)
}

func TestReadsOneBehindTheOther(t *testing.T) {
	for _, bits := range []int{1, 8, 64, 128} {
		s := newSpace(t, 256, 1, bits)
		s.Fill(numbered(256))
		f := read.From{Gen: 1, Seen: 1}
		var cells []int
		for i := range 256 {
			cell := i * 37 % 256
			cells = append(cells, cell)
			own, _ := sig.Of([]int{cell}, bits)
			want := 3 + len(sig.Touched(f.Sig, own))
			if i == 0 {
				want += 2
			}
			x := newRead(t, s, f, cell)
			goOn(t, x, want)
			wantValue(t, x, int64(1000+cell))
			f = x.From()
			published, _ := sig.Of(cells, bits)
			if f != (read.From{Gen: 1, Sig: published}) || s.Slots().Now()[0].Words != published {
				t.Error(bits, cell, f, s.Slots().Now())
			}
		}
	}
}

func TestReadFromWhereOneWasDoomed(t *testing.T) {
	s := newSpace(t, 1, 1, 128)
	giveTimes(s, 1)
	s.Slots().Doom(0, 1, 2)
	x := newRead(t, s, read.From{Gen: 1, Seen: 1}, 0)
	goOn(t, x, 7)
	wantDoomed(t, x)
	wantFrom(t, x, read.From{Gen: 1, Seen: 2, Sig: api.Sig{1 << 58, 1 << 15}})
	y := newRead(t, s, x.From(), 0)
	goOn(t, y, 3)
	wantDoomed(t, y)
}

// P11.4

func TestStepsWithNobodyElseAtWork(t *testing.T) {
	for _, gives := range []int{0, 1, 5} {
		for _, seen := range []int{-2, 0, 1, 2, 3, 10, math.MaxInt, math.MinInt} {
			for cell := range 40 {
				s := newSpace(t, 40, 1, 128)
				s.Fill(numbered(40))
				giveTimes(s, gives)
				has, _ := sig.Of([]int{(cell + 7) % 40}, 128)
				own, _ := sig.Of([]int{cell}, 128)
				want := 3 + len(sig.Touched(has, own))
				if seen != 2*gives {
					want += 2
				}
				x := newRead(t, s, read.From{Gen: 1, Seen: seen, Sig: has}, cell)
				goOn(t, x, want)
				wantValue(t, x, int64(1000+cell))
				wantFrom(t, x, read.From{Gen: 1, Seen: 2 * gives, Sig: sig.Join(has, own)})
			}
		}
	}
}

func TestReadersDoNotDisturbOneAnother(t *testing.T) {
	for _, order := range orders([]int{7, 7}) {
		s := newSpace(t, 1, 2, 128)
		s.Fill([]int64{5})
		x := newRead(t, s, read.From{Gen: 1, Seen: 1}, 0)
		y := newRead(t, s, read.From{Slot: 1, Gen: 1, Seen: 1}, 0)
		for _, i := range order {
			goOn(t, []*read.Read{x, y}[i], 1)
		}
		wantValue(t, x, 5)
		wantValue(t, y, 5)
	}
}

func TestMixedCallsAgainstAPlainRead(t *testing.T) {
	rnd := rand.New(rand.NewSource(11))
	for range 3000 {
		cells, n := 1+rnd.Intn(6), 1+rnd.Intn(3)
		bits := []int{1, 2, 5, 64, 65, 128}[rnd.Intn(6)]
		s := newSpace(t, cells, n, bits)
		reads := make([]*read.Read, 3)
		plains := make([]*plain, 3)
		for i := range reads {
			f := read.From{Slot: rnd.Intn(n), Gen: 1 + rnd.Intn(2), Seen: rnd.Intn(4), Sig: someSig(rnd, bits)}
			cell := rnd.Intn(cells)
			reads[i] = newRead(t, s, f, cell)
			plains[i] = newPlain(f, cell, bits)
		}
		for range 40 {
			if rnd.Intn(4) == 0 {
				disturb(rnd, s)
				continue
			}
			i := rnd.Intn(3)
			view, log := s.View(), s.Log()
			answer, access := plains[i].step(&view)
			if a := reads[i].Step(); a != answer {
				t.Error("answer", a, "want", answer)
			}
			wantView(t, s, view)
			wantLog(t, s, append(log, access...))
			wantPlain(t, reads[i], plains[i])
		}
	}
}

func TestSpacesHaveNothingInCommon(t *testing.T) {
	one, other := newSpace(t, 1, 1, 128), newSpace(t, 1, 1, 128)
	one.Fill([]int64{5})
	other.Fill([]int64{6})
	other.Gate().Take(3)
	x := newRead(t, one, read.From{Gen: 1, Seen: 1}, 0)
	y := newRead(t, other, read.From{Gen: 1, Seen: 1}, 0)
	goOn(t, y, 3)
	if a := y.Step(); a != api.Wait {
		t.Error(a)
	}
	goOn(t, x, 7)
	wantValue(t, x, 5)
	wantUnderWay(t, y, read.From{Gen: 1, Seen: 1, Sig: api.Sig{1 << 58, 1 << 15}})
}

// P11.5

func TestEveryScheduleOfOneReadAndTwoCommits(t *testing.T) {
	for _, bits := range []int{1, 128} {
		for _, order := range orders([]int{9, 8}) {
			r := newRun(t, bits, 1, 2, []int{0})
			r.committers = []*committer{{cells: []int{0}}, {cells: []int{0}}}
			r.play(order)
		}
	}
}

func TestEveryScheduleOfTwoReadsAndACommitOfBothCells(t *testing.T) {
	for _, cells := range [][]int{{0, 1}, {1, 0}, {1, 2}} {
		for _, order := range orders([]int{12, 5}) {
			r := newRun(t, 128, 1, 3, []int{0, 1})
			r.committers = []*committer{{cells: cells}}
			r.play(order)
		}
	}
}

func TestManyReadersAndCommitters(t *testing.T) {
	rnd := rand.New(rand.NewSource(5))
	held, doomed := 0, 0
	for range 1500 {
		n, cells := 1+rnd.Intn(4), 1+rnd.Intn(4)
		bits := []int{1, 4, 64, 128}[rnd.Intn(4)]
		r := newRun(t, bits, n, cells, rnd.Perm(cells))
		for range 1 + rnd.Intn(4) {
			r.committers = append(r.committers, &committer{cells: rnd.Perm(cells)[:1+rnd.Intn(cells)]})
		}
		var order []int
		for range 120 {
			// A committer's turn is numbered behind the readers'.
			order = append(order, rnd.Intn(n+1))
		}
		r.play(order)
		for _, a := range r.readers {
			held += len(a.done)
			if s := r.s.Slots().Now()[a.from.Slot]; s.Head.Doomed {
				doomed++
			}
		}
	}
	if held < 1000 || doomed < 300 {
		t.Error("too little was played", held, doomed)
	}
}

// The chapter's examples

func TestExampleOfSevenSteps(t *testing.T) {
	s := newSpace(t, 1, 1, 128)
	s.Fill([]int64{5})
	log := s.Log()
	x := newRead(t, s, read.From{Gen: 1, Seen: 1}, 0)
	goOn(t, x, 7)
	wantLog(t, s, append(log,
		api.Access{Kind: api.OnWord, At: 0, Op: api.OpStore, Ok: true},
		api.Access{Kind: api.OnWord, At: 1, Op: api.OpStore, Ok: true},
		api.Access{Kind: api.OnCell, Op: api.OpLoad, Ok: true},
		api.Access{Kind: api.OnGate, Op: api.OpLoad, Ok: true},
		api.Access{Kind: api.OnCell, Op: api.OpLoad, Ok: true},
		api.Access{Kind: api.OnGate, Op: api.OpLoad, Ok: true},
		api.Access{Kind: api.OnHead, Op: api.OpLoad, Ok: true}))
	wantValue(t, x, 5)
	if b := sig.Bits(x.From().Sig); x.From().Seen != 0 || !slices.Equal(b, []int{58, 79}) {
		t.Error(x.From(), b)
	}
	y := newRead(t, s, x.From(), 0)
	goOn(t, y, 3)
	wantValue(t, y, 5)
}

func TestExampleOfAGateThatIsTaken(t *testing.T) {
	for _, doom := range []bool{false, true} {
		s := newSpace(t, 1, 1, 128)
		s.Fill([]int64{5})
		x := newRead(t, s, read.From{Gen: 1, Seen: 1}, 0)
		goOn(t, x, 5)
		s.Gate().Take(2)
		for range 10 {
			if a := x.Step(); a != api.Wait {
				t.Error(a)
			}
		}
		if doom {
			s.Slots().Doom(0, 1, 2)
		}
		s.Gate().Give(2)
		log := s.Log()
		goOn(t, x, 4)
		wantLog(t, s, append(log,
			api.Access{Kind: api.OnGate, Op: api.OpLoad, Ok: true},
			api.Access{Kind: api.OnCell, Op: api.OpLoad, Ok: true},
			api.Access{Kind: api.OnGate, Op: api.OpLoad, Ok: true},
			api.Access{Kind: api.OnHead, Op: api.OpLoad, Ok: true}))
		if doom {
			wantDoomed(t, x)
		} else {
			wantValue(t, x, 5)
		}
		wantFrom(t, x, read.From{Gen: 1, Seen: 2, Sig: api.Sig{1 << 58, 1 << 15}})
	}
}

func TestExampleOfNoSuchPlace(t *testing.T) {
	s := newSpace(t, 1, 1, 128)
	wantRefused(t, s, read.From{Slot: 1, Gen: 1, Seen: 1}, 0)
	wantRefused(t, s, read.From{Gen: 1, Seen: 1}, 1)
}

// Help

// newSpace is one in which each slot lives, of generation 1 and of the thread by its number.
func newSpace(t *testing.T, cells, n, bits int) *space.Space {
	t.Helper()
	s, e := space.New(api.Config{Cells: cells, Slots: n, Bits: bits, Tag: api.CommitWins})
	if e != api.OK {
		t.Fatal(cells, n, bits, e)
	}
	for slot := range n {
		s.Slots().Claim(slot, slot+1)
		s.Slots().Ready(slot, 1, slot+1)
	}
	return s
}

func newRead(t *testing.T, s *space.Space, f read.From, cell int) *read.Read {
	t.Helper()
	x, e := read.New(s, f, cell)
	if x == nil || e != api.OK {
		t.Fatal(f, cell, x, e)
	}
	return x
}

// numbered are the values 1000, 1001 and so on.
func numbered(n int) []int64 {
	l := make([]int64, n)
	for i := range l {
		l[i] = int64(1000 + i)
	}
	return l
}

func bit(b int) api.Sig {
	s, _ := sig.From([]int{b})
	return s
}

func all() api.Sig { return api.Sig{math.MaxUint64, math.MaxUint64} }

// giveTimes takes the gate and gives it back, so often.
func giveTimes(s *space.Space, n int) {
	for range n {
		s.Gate().Take(8)
		s.Gate().Give(8)
	}
}

// heads are the kinds of heads that slot 0 may have.
func heads() []string {
	return []string{"live", "doomed", "free", "held again", "live again", "doomed again"}
}

func setHead(s *space.Space, kind string) {
	t := s.Slots()
	switch kind {
	case "doomed":
		t.Doom(0, 1, 7)
	case "free":
		t.Free(0, 1)
	case "held again", "live again", "doomed again":
		t.Free(0, 1)
		t.Claim(0, 1)
		if kind != "held again" {
			t.Ready(0, 2, 9)
		}
		if kind == "doomed again" {
			t.Doom(0, 2, 7)
		}
	}
}

// checkAlone plays a read of a cell with nobody else at work, the slot's words holding what Sig does not tell.
func checkAlone(t *testing.T, bits, cell int, has api.Sig, seen int) {
	t.Helper()
	s := newSpace(t, cell+1, 1, bits)
	s.Fill(numbered(cell + 1))
	words := api.Sig{0x1234, 0x5678}
	s.Slots().Put(0, 0, words[0])
	s.Slots().Put(0, 1, words[1])
	first, second, _ := sig.Hash(cell, bits)
	log := s.Log()
	published := has
	for word := range 2 {
		var own uint64
		for _, b := range []int{first, second} {
			if b/64 == word {
				own |= 1 << (b % 64)
			}
		}
		if own&^has[word] != 0 {
			published[word] |= own
			words[word] = published[word]
			log = append(log, api.Access{Kind: api.OnWord, At: word, Op: api.OpStore, Ok: true})
		}
	}
	looks := []api.Access{
		{Kind: api.OnCell, At: cell, Op: api.OpLoad, Ok: true},
		{Kind: api.OnGate, Op: api.OpLoad, Ok: true},
	}
	log = append(log, looks...)
	if seen != 0 {
		log = append(log, looks...)
	}
	log = append(log, api.Access{Kind: api.OnHead, Op: api.OpLoad, Ok: true})
	x := newRead(t, s, read.From{Gen: 1, Seen: seen, Sig: has}, cell)
	end(t, x)
	wantLog(t, s, log)
	wantValue(t, x, int64(1000+cell))
	wantFrom(t, x, read.From{Gen: 1, Sig: published})
	if got := s.Slots().Now()[0].Words; got != words {
		t.Error(bits, cell, has, got, "want", words)
	}
}

func someSig(rnd *rand.Rand, bits int) api.Sig {
	s := api.Sig{rnd.Uint64(), rnd.Uint64()}
	switch rnd.Intn(4) {
	case 0:
		return s
	case 1:
		return api.Sig{}
	case 2:
		return all()
	}
	s, _ = sig.Of([]int{rnd.Intn(6)}, bits)
	return s
}

// disturb is what others may do.
func disturb(rnd *rand.Rand, s *space.Space) {
	view := s.View()
	slot := rnd.Intn(len(view.Slots))
	gen := view.Slots[slot].Head.Gen
	switch rnd.Intn(8) {
	case 0, 1:
		s.Gate().Take(1 + rnd.Intn(8))
	case 2, 3:
		s.Gate().Give(max(1, view.Gate.Owner))
	case 4:
		s.Store(rnd.Intn(len(view.Cells)), rnd.Int63())
	case 5:
		s.Slots().Put(slot, rnd.Intn(2), rnd.Uint64())
	case 6:
		s.Slots().Doom(slot, gen, 1+rnd.Intn(8))
	default:
		s.Slots().Free(slot, gen)
		s.Slots().Claim(slot, 1+rnd.Intn(8))
		if rnd.Intn(3) > 0 {
			s.Slots().Ready(slot, gen+1, 1)
		}
	}
}

// orders are all ways to mix so many steps of each.
func orders(left []int) [][]int {
	var all [][]int
	for i := range left {
		if left[i] == 0 {
			continue
		}
		left[i]--
		for _, rest := range orders(left) {
			all = append(all, append([]int{i}, rest...))
		}
		left[i]++
	}
	if all == nil {
		return [][]int{nil}
	}
	return all
}

// plain is a read as the chapter tells it: turn is the number of the list there that the next step is of, 5 behind the last one.
type plain struct {
	from   read.From
	cell   int
	own    api.Sig
	turn   int
	loaded int64
	e      api.Errno
}

func newPlain(f read.From, cell, bits int) *plain {
	own, _ := sig.Of([]int{cell}, bits)
	p := &plain{from: f, cell: cell, own: own, turn: 1, e: api.ErrState}
	p.skip()
	return p
}

// skip goes on to 2, when there is nothing to publish.
func (p *plain) skip() {
	if p.own[0]&^p.from.Sig[0] == 0 && p.own[1]&^p.from.Sig[1] == 0 {
		p.turn = 2
	}
}

// step plays one step on what threads share, and tells its answer and its access.
func (p *plain) step(v *api.View) (int, []api.Access) {
	one := func(kind, at, op int) []api.Access {
		return []api.Access{{Kind: kind, At: at, Op: op, Ok: true}}
	}
	slot := &v.Slots[p.from.Slot]
	switch p.turn {
	case 1:
		word := 0
		if p.own[0]&^p.from.Sig[0] == 0 {
			word = 1
		}
		p.from.Sig[word] |= p.own[word]
		slot.Words[word] = p.from.Sig[word]
		p.skip()
		return api.Ran, one(api.OnWord, 2*p.from.Slot+word, api.OpStore)
	case 2:
		p.loaded, p.turn = v.Cells[p.cell], 3
		return api.Ran, one(api.OnCell, p.cell, api.OpLoad)
	case 3:
		look := one(api.OnGate, 0, api.OpLoad)
		if v.Gate.Owner != 0 {
			return api.Wait, look
		}
		p.turn = 4
		if v.Gate.Number != p.from.Seen {
			p.from.Seen, p.turn = v.Gate.Number, 2
		}
		return api.Ran, look
	case 4:
		p.turn, p.e = 5, api.ErrDoomed
		if slot.Head.State == api.Live && slot.Head.Gen == p.from.Gen && !slot.Head.Doomed {
			p.e = api.OK
		}
		return api.Ran, one(api.OnHead, p.from.Slot, api.OpLoad)
	}
	return api.Idle, nil
}

func wantPlain(t *testing.T, x *read.Read, p *plain) {
	t.Helper()
	switch {
	case p.turn < 5:
		wantUnderWay(t, x, p.from)
	case p.e == api.OK:
		wantValue(t, x, p.loaded)
	default:
		wantDoomed(t, x)
	}
	wantFrom(t, x, p.from)
}

// committer stores cells as P11.5 asks for: it takes the gate, dooms whom it has to, stores, and gives the gate back, one of these a step.
type committer struct {
	cells []int
	made  int
}

// step answers false, when it has given the gate back.
func (c *committer) step(s *space.Space, bits int) bool {
	const thread = 8
	c.made++
	switch stored := c.made - 3; {
	case c.made == 1:
		s.Gate().Take(thread)
	case c.made == 2:
		writes, _ := sig.Of(c.cells, bits)
		for slot, one := range s.Slots().Now() {
			if sig.Meets(one.Words, writes) {
				s.Slots().Doom(slot, one.Head.Gen, thread)
			}
		}
	case stored < len(c.cells):
		s.Store(c.cells[stored], int64(len(s.Log())))
	default:
		s.Gate().Give(thread)
		return false
	}
	return true
}

// reader is an attempt that reads cells, one behind the other, till it is doomed.
type reader struct {
	from  read.From
	cells []int
	x     *read.Read
	done  []api.Pair
}

func (a *reader) step(t *testing.T, s *space.Space) {
	if a.x == nil {
		if len(a.cells) == 0 {
			return
		}
		a.x = newRead(t, s, a.from, a.cells[0])
	}
	held := s.Gate().Now().Owner != 0
	if a.x.Step() == api.Wait && !held {
		t.Error("waits for nobody")
	}
	if !a.x.Done() {
		return
	}
	v, e := a.x.Value()
	if e != api.OK {
		a.cells, a.x = nil, nil
		return
	}
	a.done = append(a.done, api.Pair{Cell: a.cells[0], X: v})
	a.from, a.x, a.cells = a.x.From(), nil, a.cells[1:]
}

// run is readers and committers in one space; committers go one behind the other.
type run struct {
	t          *testing.T
	s          *space.Space
	bits       int
	readers    []*reader
	committers []*committer
}

func newRun(t *testing.T, bits, n, cells int, reads []int) *run {
	r := &run{t: t, s: newSpace(t, cells, n, bits), bits: bits}
	for slot := range n {
		r.readers = append(r.readers, &reader{from: read.From{Slot: slot, Gen: 1, Seen: 1}, cells: reads})
	}
	return r
}

// play makes the steps of an order, in which a number behind the readers' is the committers', and looks at what was read behind each.
func (r *run) play(order []int) {
	r.t.Helper()
	for at, i := range order {
		switch {
		case i < len(r.readers):
			r.readers[i].step(r.t, r.s)
		case len(r.committers) > 0:
			if !r.committers[0].step(r.s, r.bits) {
				r.committers = r.committers[1:]
			}
		}
		r.wantReadsHold(order[:at+1])
	}
}

func (r *run) wantReadsHold(order []int) {
	r.t.Helper()
	v := r.s.View()
	if v.Gate.Owner != 0 {
		return
	}
	for _, a := range r.readers {
		if v.Slots[a.from.Slot].Head.Doomed {
			continue
		}
		for _, p := range a.done {
			if v.Cells[p.Cell] != p.X {
				r.t.Fatal(order, "slot", a.from.Slot, "read", p, "cells", v.Cells)
			}
		}
	}
}

func wantRefused(t *testing.T, s *space.Space, f read.From, cell int) {
	t.Helper()
	log, view := s.Log(), s.View()
	if x, e := read.New(s, f, cell); x != nil || e != api.ErrPlace {
		t.Error(f, cell, x, e)
	}
	wantLog(t, s, log)
	wantView(t, s, view)
}

func goOn(t *testing.T, x *read.Read, steps int) {
	t.Helper()
	for range steps {
		if x.Done() {
			t.Error("done too early")
		}
		if a := x.Step(); a != api.Ran {
			t.Error("answer", a)
		}
	}
}

// end goes on till it is done.
func end(t *testing.T, x *read.Read) {
	t.Helper()
	for range 7 {
		if x.Done() {
			return
		}
		goOn(t, x, 1)
	}
	if !x.Done() {
		t.Error("more than seven steps")
	}
}

func wantIdle(t *testing.T, x *read.Read) {
	t.Helper()
	if a := x.Step(); a != api.Idle {
		t.Error("answer", a)
	}
}

func wantUnderWay(t *testing.T, x *read.Read, f read.From) {
	t.Helper()
	v, e := x.Value()
	if x.Done() || v != 0 || e != api.ErrState {
		t.Error(x.Done(), v, e)
	}
	wantFrom(t, x, f)
}

func wantValue(t *testing.T, x *read.Read, want int64) {
	t.Helper()
	if v, e := x.Value(); !x.Done() || v != want || e != api.OK {
		t.Error(x.Done(), v, e, "want", want)
	}
}

func wantDoomed(t *testing.T, x *read.Read) {
	t.Helper()
	if v, e := x.Value(); !x.Done() || v != 0 || e != api.ErrDoomed {
		t.Error(x.Done(), v, e)
	}
}

func wantFrom(t *testing.T, x *read.Read, want read.From) {
	t.Helper()
	if f := x.From(); f != want {
		t.Error(f, "want", want)
	}
}

func wantView(t *testing.T, s *space.Space, want api.View) {
	t.Helper()
	v := s.View()
	if !slices.Equal(v.Cells, want.Cells) || v.Gate != want.Gate || !slices.Equal(v.Slots, want.Slots) {
		t.Error(v, "want", want)
	}
}

func wantLog(t *testing.T, s *space.Space, want []api.Access) {
	t.Helper()
	if l := s.Log(); !slices.Equal(l, want) {
		t.Error(l, "want", want)
	}
}

func wantLast(t *testing.T, s *space.Space, want api.Access) {
	t.Helper()
	l := s.Log()
	if len(l) == 0 || l[len(l)-1] != want {
		t.Error(l, "want", want)
	}
}
