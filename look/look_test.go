package look_test

import (
	"math"
	"math/rand"
	"testing"

	"quash/api"
	"quash/look"
	"quash/read"
	"quash/sig"
	"quash/space"
	"quash/start"
)

// P12.1

func TestNewRefuses(t *testing.T) {
	for n := 1; n <= 8; n++ {
		s := newLiving(t, n, all())
		log, view := s.Log(), s.View()
		for _, slot := range []int{-1, -2, n, n + 1, 8, 9, math.MinInt, math.MaxInt, math.MinInt32, 1 << 32} {
			for _, writes := range []api.Sig{{}, {1, 0}, all()} {
				if x, e := look.New(s, slot, writes); x != nil || e != api.ErrPlace {
					t.Error(n, slot, writes, x, e)
				}
			}
		}
		wantLog(t, s, log)
		wantView(t, s, view)
	}
}

func TestNewTakesEverySlot(t *testing.T) {
	for n := 2; n <= 8; n++ {
		s := newLiving(t, n, all())
		for slot := range n {
			for _, writes := range []api.Sig{{}, {1, 0}, {0, 1 << 63}, all()} {
				log, view := s.Log(), s.View()
				x := newLook(t, s, slot, writes)
				wantUnderWay(t, x)
				wantList(t, x.Victims(), nil)
				wantLog(t, s, log)
				wantView(t, s, view)
			}
		}
	}
}

func TestOneSlotAloneIsDoneAtOnce(t *testing.T) {
	for kind := range numberOfKinds {
		s := newSpace(t, 1)
		set(s, 0, kind)
		log := s.Log()
		x := newLook(t, s, 0, all())
		wantEnd(t, s, x)
		wantList(t, x.Victims(), nil)
		wantLog(t, s, log)
	}
}

func TestTheOwnSlotIsNotLookedAt(t *testing.T) {
	for own := range 8 {
		s := newLiving(t, 8, all())
		log := s.Log()
		x := newLook(t, s, own, api.Sig{0, 1})
		var want []api.Victim
		for slot := range 8 {
			if slot != own {
				log = append(log, headLook(slot), wordLook(slot, 0), wordLook(slot, 1))
				want = append(want, api.Victim{Slot: slot, Gen: 1, Stamp: slot + 11, Thread: slot + 1})
			}
		}
		goOn(t, x, 21)
		wantLog(t, s, log)
		wantList(t, x.Victims(), want)
		wantEnd(t, s, x)
	}
}

// P12.2

func TestLooksAtEveryTable(t *testing.T) {
	for n := 1; n <= 4; n++ {
		kinds := make([]int, n)
		for {
			for own := range n {
				checkTable(t, kinds, own)
			}
			if !nextKinds(kinds, numberOfKinds) {
				break
			}
		}
	}
}

func TestLooksAtGreatTables(t *testing.T) {
	rnd := rand.New(rand.NewSource(12))
	for range 3000 {
		kinds := make([]int, 5+rnd.Intn(4))
		for slot := range kinds {
			kinds[slot] = rnd.Intn(numberOfKinds)
		}
		checkTable(t, kinds, rnd.Intn(len(kinds)))
	}
}

func TestEveryBitMeetsItselfAlone(t *testing.T) {
	for b := range 128 {
		for c := range 128 {
			one, _ := sig.From([]int{b})
			other, _ := sig.From([]int{c})
			s := newLiving(t, 2, one)
			x := newLook(t, s, 0, other)
			goOn(t, x, 3)
			if got := len(x.Victims()) == 1; got != (b == c) {
				t.Error(b, c, got)
			}
		}
	}
}

func TestNoWritesMeetNobody(t *testing.T) {
	s := newLiving(t, 8, all())
	x := newLook(t, s, 3, api.Sig{})
	goOn(t, x, 21)
	wantEnd(t, s, x)
	wantList(t, x.Victims(), nil)
}

func TestVictimsAreToldBehindTheirLastWord(t *testing.T) {
	s := newLiving(t, 3, all())
	first := api.Victim{Slot: 0, Gen: 1, Stamp: 11, Thread: 1}
	last := api.Victim{Slot: 2, Gen: 1, Stamp: 13, Thread: 3}
	x := newLook(t, s, 1, api.Sig{1, 1})
	for _, want := range [][]api.Victim{nil, nil, nil, {first}, {first}, {first}} {
		wantList(t, x.Victims(), want)
		goOn(t, x, 1)
	}
	wantList(t, x.Victims(), []api.Victim{first, last})
	wantEnd(t, s, x)
	wantList(t, x.Victims(), []api.Victim{first, last})
}

func TestAVictimIsAsItsHeadWasWhenItWasLookedAt(t *testing.T) {
	meddles := map[string]func(s *space.Space){
		"freed": func(s *space.Space) { s.Slots().Free(1, 1) },
		"held by another": func(s *space.Space) {
			s.Slots().Free(1, 1)
			s.Slots().Claim(1, 7)
		},
		"another one": func(s *space.Space) {
			s.Slots().Free(1, 1)
			s.Slots().Claim(1, 7)
			s.Slots().Ready(1, 2, 99)
		},
		"doomed": func(s *space.Space) { s.Slots().Doom(1, 1, 8) },
	}
	for name, meddle := range meddles {
		for at := 1; at <= 3; at++ {
			s := newLiving(t, 2, api.Sig{4, 0})
			x := newLook(t, s, 0, api.Sig{4, 0})
			goOn(t, x, at)
			meddle(s)
			goOn(t, x, 3-at)
			wantEnd(t, s, x)
			if l := x.Victims(); len(l) != 1 || l[0] != (api.Victim{Slot: 1, Gen: 1, Stamp: 12, Thread: 2}) {
				t.Error(name, at, l)
			}
		}
	}
}

func TestWhoComesToLiveBehindTheLookAtItsHead(t *testing.T) {
	s := newSpace(t, 3)
	s.Slots().Claim(1, 4)
	putWords(s, 1, all())
	putWords(s, 2, all())
	x := newLook(t, s, 0, all())
	log := s.Log()
	goOn(t, x, 1)
	wantLog(t, s, append(log, headLook(1)))
	s.Slots().Ready(1, 1, 5)
	s.Slots().Claim(2, 6)
	s.Slots().Ready(2, 1, 9)
	goOn(t, x, 3)
	wantEnd(t, s, x)
	wantList(t, x.Victims(), []api.Victim{{Slot: 2, Gen: 1, Stamp: 9, Thread: 6}})
}

func TestWordsCountAsTheyWereLoaded(t *testing.T) {
	for word := range 2 {
		for at := range 4 {
			var bit api.Sig
			bit[word] = 1 << 40
			loaded := word + 2 // the step that looks at it

			s := newLiving(t, 2, api.Sig{})
			x := newLook(t, s, 0, bit)
			goOn(t, x, at)
			s.Slots().Put(1, word, bit[word])
			goOn(t, x, 3-at)
			if met := len(x.Victims()) == 1; met != (at < loaded) {
				t.Error("a bit that came", word, at, met)
			}

			s = newLiving(t, 2, bit)
			x = newLook(t, s, 0, bit)
			goOn(t, x, at)
			s.Slots().Put(1, word, ^bit[word])
			goOn(t, x, 3-at)
			if met := len(x.Victims()) == 1; met != (at >= loaded) {
				t.Error("a bit that went", word, at, met)
			}
		}
	}
}

func TestWordsOfOneSlotDoNotCountForTheNext(t *testing.T) {
	s := newLiving(t, 4, api.Sig{})
	putWords(s, 1, api.Sig{1, 0})
	putWords(s, 3, api.Sig{0, 1})
	for _, c := range []struct {
		writes api.Sig
		slots  []int
	}{
		{api.Sig{1, 0}, []int{1}},
		{api.Sig{0, 1}, []int{3}},
		{api.Sig{1, 1}, []int{1, 3}},
		{api.Sig{2, 2}, nil},
	} {
		x := newLook(t, s, 0, c.writes)
		goOn(t, x, 9)
		var want []api.Victim
		for _, slot := range c.slots {
			want = append(want, api.Victim{Slot: slot, Gen: 1, Stamp: slot + 11, Thread: slot + 1})
		}
		wantList(t, x.Victims(), want)
	}
}

func TestStepsOfALookAreNotedInTheStepThatWasBegun(t *testing.T) {
	s := newLiving(t, 3, all())
	s.Slots().Doom(2, 1, 4)
	log := s.Log()
	x := newLook(t, s, 0, all())
	want := []api.Access{
		{Step: 1, Thread: 6, Kind: api.OnHead, At: 1, Op: api.OpLoad, Ok: true},
		{Step: 2, Thread: 3, Kind: api.OnWord, At: 2, Op: api.OpLoad, Ok: true},
		{Step: 3, Thread: 3, Kind: api.OnWord, At: 3, Op: api.OpLoad, Ok: true},
		{Step: 4, Thread: 8, Kind: api.OnHead, At: 2, Op: api.OpLoad, Ok: true},
	}
	for _, a := range want {
		s.Turn(a.Thread)
		goOn(t, x, 1)
		if s.Done() != 1 {
			t.Error("accesses", s.Done())
		}
	}
	s.Turn(5)
	wantEnd(t, s, x)
	wantLog(t, s, append(log, want...))
}

func TestALookChangesNothing(t *testing.T) {
	s := newLiving(t, 3, all())
	s.Fill([]int64{5, 6})
	s.Gate().Take(1)
	view := s.View()
	x := newLook(t, s, 0, all())
	for range 6 {
		goOn(t, x, 1)
		wantView(t, s, view)
	}
	wantEnd(t, s, x)
	if l := s.Events(); len(l) != 0 {
		t.Error(l)
	}
}

func TestAskingALookMakesNoAccess(t *testing.T) {
	s := newLiving(t, 2, all())
	x := newLook(t, s, 0, all())
	for range 5 {
		log, view := s.Log(), s.View()
		for range 3 {
			x.Done()
			x.Victims()
		}
		wantLog(t, s, log)
		wantView(t, s, view)
		x.Step()
	}
}

func TestVictimsAreAnsweredAnew(t *testing.T) {
	s := newLiving(t, 5, all())
	x := newLook(t, s, 0, all())
	want := []api.Victim{
		{Slot: 1, Gen: 1, Stamp: 12, Thread: 2},
		{Slot: 2, Gen: 1, Stamp: 13, Thread: 3},
		{Slot: 3, Gen: 1, Stamp: 14, Thread: 4},
		{Slot: 4, Gen: 1, Stamp: 15, Thread: 5},
	}
	for n := range 5 {
		one, other := x.Victims(), x.Victims()
		spoil(one)
		wantList(t, other, want[:n])
		wantList(t, x.Victims(), want[:n])
		if n < 4 {
			goOn(t, x, 3)
		}
		// What came since is not to stand in an answer's spare room, nor what is put there in the next answer.
		wantList(t, other, want[:n])
		spoil(other)
	}
	wantList(t, x.Victims(), want)
}

func TestVictimsStayWhatTheyWere(t *testing.T) {
	s := newLiving(t, 2, all())
	x := newLook(t, s, 0, all())
	goOn(t, x, 3)
	s.Slots().Free(1, 1)
	putWords(s, 1, api.Sig{})
	wantEnd(t, s, x)
	wantList(t, x.Victims(), []api.Victim{{Slot: 1, Gen: 1, Stamp: 12, Thread: 2}})
}

// P12.5

func TestMixedCallsAgainstAPlainLook(t *testing.T) {
	rnd := rand.New(rand.NewSource(7))
	met, missed := 0, 0
	for range 3000 {
		n := 1 + rnd.Intn(8)
		s := newLiving(t, n, api.Sig{})
		for slot := range n {
			putWords(s, slot, api.Sig{someWord(rnd), someWord(rnd)})
		}
		looks := make([]*look.Look, 3)
		plains := make([]*plainLook, 3)
		for i := range looks {
			own, writes := rnd.Intn(n), api.Sig{someWord(rnd), someWord(rnd)}
			looks[i] = newLook(t, s, own, writes)
			plains[i] = newPlainLook(n, own, writes)
		}
		for range 60 {
			if rnd.Intn(3) == 0 {
				disturb(rnd, s, rnd.Intn(n))
				continue
			}
			i := rnd.Intn(3)
			view, log := s.View(), s.Log()
			answer, access := plains[i].step(view.Slots)
			if a := looks[i].Step(); a != answer {
				t.Error("answer", a, "want", answer)
			}
			wantView(t, s, view)
			wantLog(t, s, append(log, access...))
			wantList(t, looks[i].Victims(), plains[i].victims)
			if looks[i].Done() != (len(plains[i].turns) == 0) {
				t.Error("done", looks[i].Done())
			}
		}
		for _, p := range plains {
			met += len(p.victims)
			missed += p.missed
		}
	}
	if met < 2000 || missed < 2000 {
		t.Error("too little was played", met, missed)
	}
}

func TestStepsOfALookAreCounted(t *testing.T) {
	for kind := range numberOfKinds {
		for n := 1; n <= 8; n++ {
			for living := range n {
				s := newSpace(t, n)
				for slot := range n {
					if slot < n-living {
						set(s, slot, kind%3)
					} else {
						set(s, slot, 3+kind%6)
					}
				}
				x := newLook(t, s, 0, api.Sig{2, 1})
				goOn(t, x, n-1+2*living)
				wantEnd(t, s, x)
			}
		}
	}
}

func TestWhoKeepsABitAllTheWhileIsMet(t *testing.T) {
	rnd := rand.New(rand.NewSource(3))
	for range 2000 {
		n := 2 + rnd.Intn(7)
		own := rnd.Intn(n)
		keeper := (own + 1 + rnd.Intn(n-1)) % n
		b := rnd.Intn(128)
		bit, _ := sig.From([]int{b})
		writes := sig.Join(bit, api.Sig{someWord(rnd), someWord(rnd)})
		s := newLiving(t, n, api.Sig{})
		putWords(s, keeper, bit)
		x := newLook(t, s, own, writes)
		for step := 0; step < mostSteps && !x.Done(); step++ {
			for range rnd.Intn(4) {
				if slot := rnd.Intn(n); slot != keeper {
					disturb(rnd, s, slot)
				} else {
					word := rnd.Intn(2)
					s.Slots().Put(keeper, word, bit[word]|rnd.Uint64())
				}
			}
			goOn(t, x, 1)
		}
		found := false
		for _, v := range x.Victims() {
			found = found || v == api.Victim{Slot: keeper, Gen: 1, Stamp: keeper + 11, Thread: keeper + 1}
		}
		if !found {
			t.Error(n, own, keeper, b, x.Victims())
		}
	}
}

func TestOfEachVictimABitWasThereWhileItWasLookedAt(t *testing.T) {
	rnd := rand.New(rand.NewSource(9))
	met := 0
	for range 2000 {
		n := 2 + rnd.Intn(7)
		own := rnd.Intn(n)
		writes := api.Sig{someWord(rnd), someWord(rnd)}
		s := newLiving(t, n, writes)
		x := newLook(t, s, own, writes)
		there := make([]bool, n)
		for step := 0; step < mostSteps && !x.Done(); step++ {
			for range rnd.Intn(5) {
				disturb(rnd, s, rnd.Intn(n))
			}
			goOn(t, x, 1)
			log := s.Log()
			if last := log[len(log)-1]; last.Kind == api.OnWord {
				slot, word := last.At/2, last.At%2
				there[slot] = there[slot] || s.Slots().Now()[slot].Words[word]&writes[word] != 0
			}
		}
		for _, v := range x.Victims() {
			met++
			if !there[v.Slot] {
				t.Error(writes, v, there)
			}
		}
	}
	if met < 500 {
		t.Error("too little was played", met)
	}
}

// A reader that begins and reads while a committer looks: who had published a bit ahead of the look's first step is met, who was not Live when its head was looked at is not.
func TestEveryScheduleOfALookAndAReader(t *testing.T) {
	for _, cell := range []int{0, 1} {
		writes, _ := sig.Of([]int{0}, 128)
		met, unmet := 0, 0
		for _, order := range orders([]int{3, 8}) {
			s := newSpace(t, 2)
			s.Slots().Claim(0, 1)
			s.Slots().Ready(0, 1, 1)
			r := &reader{cell: cell}
			x := newLook(t, s, 0, writes)
			published, lived := false, false
			looked := 0
			for _, i := range order {
				if i == 1 {
					r.step(t, s)
					continue
				}
				now := s.Slots().Now()[1]
				if looked == 0 {
					published, lived = meet(now.Words, writes), now.Head.State == api.Live
				}
				looked++
				x.Step()
			}
			is := len(x.Victims()) == 1
			if published && lived && !is || !lived && is || cell == 1 && is {
				t.Error(cell, order, published, lived, x.Victims())
			}
			if is {
				met++
			} else {
				unmet++
			}
		}
		if cell == 0 && (met == 0 || unmet == 0) {
			t.Error("too little was played", met, unmet)
		}
	}
}

func TestSpacesOfLooksHaveNothingInCommon(t *testing.T) {
	one, other := newLiving(t, 2, all()), newLiving(t, 3, api.Sig{})
	x, y := newLook(t, one, 0, all()), newLook(t, other, 0, all())
	goOn(t, x, 1)
	goOn(t, y, 6)
	goOn(t, x, 2)
	wantList(t, x.Victims(), []api.Victim{{Slot: 1, Gen: 1, Stamp: 12, Thread: 2}})
	wantList(t, y.Victims(), nil)
}

// The chapter's examples

func TestExampleOfThreeSlots(t *testing.T) {
	for _, c := range []struct {
		writes api.Sig
		want   []api.Victim
	}{
		{api.Sig{2, 0}, []api.Victim{{Slot: 1, Gen: 2, Stamp: 9, Thread: 4}}},
		{api.Sig{1, 8}, nil},
	} {
		s := exampleSpace(t)
		log := s.Log()
		x := newLook(t, s, 0, c.writes)
		goOn(t, x, 4)
		wantLog(t, s, append(log, headLook(1), wordLook(1, 0), wordLook(1, 1), headLook(2)))
		wantEnd(t, s, x)
		wantList(t, x.Victims(), c.want)
	}
	if x, e := look.New(exampleSpace(t), 3, api.Sig{2, 0}); x != nil || e != api.ErrPlace {
		t.Error(x, e)
	}
}

// Help

// exampleSpace is that of the chapter's examples.
func exampleSpace(t *testing.T) *space.Space {
	t.Helper()
	s := newSpace(t, 3)
	s.Slots().Claim(0, 1)
	s.Slots().Ready(0, 1, 3)
	s.Slots().Claim(1, 2)
	s.Slots().Free(1, 1)
	s.Slots().Claim(1, 4)
	s.Slots().Ready(1, 2, 9)
	putWords(s, 1, api.Sig{6, 0})
	s.Slots().Claim(2, 5)
	return s
}

// checkTable plays a look over slots of these kinds, with nobody else at work.
func checkTable(t *testing.T, kinds []int, own int) {
	t.Helper()
	s := newSpace(t, len(kinds))
	for slot, kind := range kinds {
		set(s, slot, kind)
	}
	writes := api.Sig{2, 1}
	log, view := s.Log(), s.View()
	x := newLook(t, s, own, writes)
	steps := 0
	var want []api.Victim
	for slot, one := range view.Slots {
		if slot == own {
			continue
		}
		log = append(log, headLook(slot))
		steps++
		if one.Head.State != api.Live || one.Head.Doomed {
			continue
		}
		log = append(log, wordLook(slot, 0), wordLook(slot, 1))
		steps += 2
		if meet(one.Words, writes) {
			want = append(want, victimOf(slot, one.Head))
		}
	}
	goOn(t, x, steps)
	wantLog(t, s, log)
	wantView(t, s, view)
	wantEnd(t, s, x)
	wantList(t, x.Victims(), want)
}

// spoil writes over a list, its spare room too.
func spoil(l []api.Victim) {
	l = l[:cap(l)]
	for i := range l {
		l[i] = api.Victim{Slot: -1, Gen: -1, Stamp: -1, Thread: -1}
	}
}

// plainLook is a look as the chapter tells it: a row of turns, each a slot and what is looked at there (0: its head; 1, 2: its words).
type plainLook struct {
	writes  api.Sig
	turns   [][2]int
	at      api.Victim
	words   api.Sig
	victims []api.Victim
	missed  int
}

func newPlainLook(n, own int, writes api.Sig) *plainLook {
	p := &plainLook{writes: writes}
	for slot := range n {
		if slot != own {
			p.turns = append(p.turns, [2]int{slot, 0}, [2]int{slot, 1}, [2]int{slot, 2})
		}
	}
	return p
}

// step plays one step on slots, and tells its answer and its access.
func (p *plainLook) step(slots []api.Slot) (int, []api.Access) {
	if len(p.turns) == 0 {
		return api.Idle, nil
	}
	slot, what := p.turns[0][0], p.turns[0][1]
	p.turns = p.turns[1:]
	one := slots[slot]
	if what == 0 {
		p.at = victimOf(slot, one.Head)
		if one.Head.State != api.Live || one.Head.Doomed {
			p.turns = p.turns[2:]
		}
		return api.Ran, []api.Access{headLook(slot)}
	}
	p.words[what-1] = one.Words[what-1]
	if what == 2 && meet(p.words, p.writes) {
		p.victims = append(p.victims, p.at)
	} else if what == 2 {
		p.missed++
	}
	return api.Ran, []api.Access{wordLook(slot, what-1)}
}

// reader begins an attempt, and reads a cell.
type reader struct {
	cell  int
	begin *start.Start
	read  *read.Read
}

func (r *reader) step(t *testing.T, s *space.Space) {
	t.Helper()
	if r.begin == nil {
		r.begin, _ = start.New(s, 2, 7)
	}
	if !r.begin.Done() {
		r.begin.Step()
		return
	}
	if r.read == nil {
		slot, gen, e := r.begin.Slot()
		if e != api.OK {
			t.Fatal(e)
		}
		r.read, _ = read.New(s, read.From{Slot: slot, Gen: gen, Seen: 1}, r.cell)
	}
	r.read.Step()
}
