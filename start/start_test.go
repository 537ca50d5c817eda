package start_test

import (
	"math"
	"math/rand"
	"slices"
	"testing"

	"quash/api"
	"quash/space"
	"quash/start"
)

// P10.1

func TestNewRefuses(t *testing.T) {
	s := newSpace(t, 2)
	threads := []int{0, -1, 9, 10, 256, math.MinInt, math.MaxInt, math.MinInt32, 1<<32 + 1}
	stamps := []int{0, -1, -7, math.MinInt, math.MinInt32}
	for _, thread := range threads {
		for _, stamp := range append([]int{1, 7, math.MaxInt}, stamps...) {
			wantRefused(t, s, thread, stamp)
		}
	}
	for thread := 1; thread <= 8; thread++ {
		for _, stamp := range stamps {
			wantRefused(t, s, thread, stamp)
		}
	}
}

func TestNewTakesAtTheEdges(t *testing.T) {
	for thread := 1; thread <= 8; thread++ {
		for _, stamp := range []int{1, 2, 7, 1 << 32, math.MaxInt} {
			s := newSpace(t, 1)
			x := newStart(t, s, thread, stamp)
			wantLog(t, s, nil)
			wantSlots(t, s, []api.Slot{{}})
			wantUnderWay(t, x)
			goOn(t, x, 4)
			wantSlot(t, x, 0, 1)
			wantSlots(t, s, []api.Slot{{Head: live(1, stamp, thread)}})
		}
	}
}

func TestNewOfSlotsThatAreHeldIsUnderWay(t *testing.T) {
	for n := 1; n <= 8; n++ {
		s := newSpace(t, n)
		for slot := range n {
			put(s, slot, api.Held)
		}
		x := newStart(t, s, 1, 1)
		wantUnderWay(t, x)
	}
}

// P10.2

func TestStepsOfEveryTable(t *testing.T) {
	for n := 1; n <= 5; n++ {
		states := make([]int, n)
		for {
			checkTable(t, states)
			if !nextTable(states, 4) {
				break
			}
		}
	}
}

func TestStepsOfGreatTables(t *testing.T) {
	for n := 6; n <= 8; n++ {
		states := make([]int, n)
		for {
			checkTable(t, states)
			if !nextTable(states, 2) {
				break
			}
		}
	}
}

func TestEachStepChangesOneThing(t *testing.T) {
	s := newSpace(t, 3)
	put(s, 0, api.Live)
	put(s, 1, api.Free)
	put(s, 2, api.Free)
	x := newStart(t, s, 3, 7)
	first := api.Slot{Head: live(1, 100, 8), Words: api.Sig{1, 2}}
	last := api.Slot{Head: api.Head{Gen: 1}, Words: api.Sig{5, 6}}
	for _, own := range []api.Slot{
		{Head: api.Head{Gen: 1}, Words: api.Sig{3, 4}},
		{Head: held(2, 3), Words: api.Sig{3, 4}},
		{Head: held(2, 3), Words: api.Sig{0, 4}},
		{Head: held(2, 3), Words: api.Sig{0, 0}},
		{Head: live(2, 7, 3), Words: api.Sig{0, 0}},
	} {
		goOn(t, x, 1)
		wantSlots(t, s, []api.Slot{first, own, last})
	}
	wantSlot(t, x, 1, 2)
}

func TestStepsTouchNoCellAndNoGate(t *testing.T) {
	s := newSpace(t, 1)
	s.Fill([]int64{5, 6})
	s.Gate().Take(2)
	x := newStart(t, s, 3, 7)
	goOn(t, x, 4)
	v := s.View()
	if !slices.Equal(v.Cells, []int64{5, 6}) || v.Gate != (api.Gate{Number: 1, Owner: 2}) {
		t.Error(v)
	}
	wantSlot(t, x, 0, 1)
}

func TestStepsAreNotedInTheStepThatWasBegun(t *testing.T) {
	s := newSpace(t, 2)
	s.Slots().Claim(0, 5)
	x := newStart(t, s, 3, 7)
	for _, thread := range []int{6, 3, 3, 1, 4} {
		s.Turn(thread)
		goOn(t, x, 1)
		if s.Done() != 1 {
			t.Error("accesses", s.Done())
		}
	}
	if s.Most() != 1 {
		t.Error("most", s.Most())
	}
	wantLog(t, s, []api.Access{
		{Kind: api.OnHead, At: 0, Op: api.OpTrade, Ok: true},
		{Step: 1, Thread: 6, Kind: api.OnHead, At: 0, Op: api.OpTrade},
		{Step: 2, Thread: 3, Kind: api.OnHead, At: 1, Op: api.OpTrade, Ok: true},
		{Step: 3, Thread: 3, Kind: api.OnWord, At: 2, Op: api.OpStore, Ok: true},
		{Step: 4, Thread: 1, Kind: api.OnWord, At: 3, Op: api.OpStore, Ok: true},
		{Step: 5, Thread: 4, Kind: api.OnHead, At: 1, Op: api.OpTrade, Ok: true},
	})
}

func TestStepsNoteNoEvent(t *testing.T) {
	s := newSpace(t, 1)
	goOn(t, newStart(t, s, 3, 7), 4)
	goOn(t, newStart(t, s, 4, 8), 1)
	if l := s.Events(); len(l) != 0 {
		t.Error(l)
	}
}

func TestSlotsAreLookedAtWhenTheyAreTried(t *testing.T) {
	s := newSpace(t, 3)
	put(s, 0, api.Held)
	x := newStart(t, s, 3, 7)
	s.Slots().Free(0, 1)
	goOn(t, x, 4)
	wantSlot(t, x, 0, 2)

	s = newSpace(t, 3)
	x = newStart(t, s, 3, 7)
	put(s, 0, api.Held)
	goOn(t, x, 1)
	put(s, 1, api.Live)
	goOn(t, x, 1)
	goOn(t, x, 4)
	wantSlot(t, x, 2, 1)
}

func TestSlotsAreTriedOnce(t *testing.T) {
	s := newSpace(t, 2)
	put(s, 0, api.Held)
	put(s, 1, api.Held)
	x := newStart(t, s, 3, 7)
	goOn(t, x, 1)
	s.Slots().Free(0, 1)
	goOn(t, x, 1)
	wantError(t, x, api.ErrSlots)
	s.Slots().Free(1, 1)
	before := len(s.Log())
	for range 3 {
		wantIdle(t, x)
	}
	wantError(t, x, api.ErrSlots)
	if n := len(s.Log()); n != before {
		t.Error("accesses of one that is done", n-before)
	}
}

func TestReadyIsRefusedToOneThatWasFreed(t *testing.T) {
	for at := 1; at <= 3; at++ {
		s := newSpace(t, 2)
		put(s, 0, api.Held)
		put(s, 1, api.Free)
		x := newStart(t, s, 3, 7)
		goOn(t, x, 1+at)
		s.Slots().Free(1, 2)
		goOn(t, x, 4-at)
		wantError(t, x, api.ErrState)
		wantSlots(t, s, []api.Slot{
			{Head: held(1, 8), Words: api.Sig{1, 2}},
			{Head: api.Head{Gen: 2}},
		})
		wantLast(t, s, api.Access{Kind: api.OnHead, At: 1, Op: api.OpTrade})
		wantIdle(t, x)
	}
}

func TestReadyIsRefusedToOneWhoseSlotIsAnothersNow(t *testing.T) {
	for at := 1; at <= 3; at++ {
		for _, state := range []int{api.Held, api.Live} {
			for thread := 3; thread <= 4; thread++ {
				s := newSpace(t, 1)
				x := newStart(t, s, 3, 7)
				goOn(t, x, at)
				s.Slots().Free(0, 1)
				s.Slots().Claim(0, thread)
				want := held(2, thread)
				if state == api.Live {
					s.Slots().Ready(0, 2, 9)
					want = live(2, 9, thread)
				}
				goOn(t, x, 4-at)
				wantError(t, x, api.ErrState)
				wantSlots(t, s, []api.Slot{{Head: want}})
				wantLast(t, s, api.Access{Kind: api.OnHead, At: 0, Op: api.OpTrade})
				wantIdle(t, x)
			}
		}
	}
}

func TestReadyIsRefusedToOneThatLivesAlready(t *testing.T) {
	s := newSpace(t, 1)
	x := newStart(t, s, 3, 7)
	goOn(t, x, 1)
	s.Slots().Ready(0, 1, 9)
	goOn(t, x, 3)
	wantError(t, x, api.ErrState)
	wantSlots(t, s, []api.Slot{{Head: live(1, 9, 3)}})
}

func TestWordsAreClearedOnce(t *testing.T) {
	s := newSpace(t, 1)
	x := newStart(t, s, 3, 7)
	goOn(t, x, 2)
	s.Slots().Put(0, 0, 9)
	goOn(t, x, 2)
	wantSlots(t, s, []api.Slot{{Head: live(1, 7, 3), Words: api.Sig{9, 0}}})
	wantSlot(t, x, 0, 1)
}

func TestStepOfOneThatIsDone(t *testing.T) {
	s := newSpace(t, 1)
	x := newStart(t, s, 3, 7)
	y := newStart(t, s, 4, 8)
	goOn(t, x, 4)
	goOn(t, y, 1)
	s.Slots().Put(0, 1, 6)
	before := len(s.Log())
	for range 9 {
		wantIdle(t, x)
		wantIdle(t, y)
		wantSlot(t, x, 0, 1)
		wantError(t, y, api.ErrSlots)
	}
	if n := len(s.Log()); n != before {
		t.Error("accesses of those that are done", n-before)
	}
	wantSlots(t, s, []api.Slot{{Head: live(1, 7, 3), Words: api.Sig{0, 6}}})
}

// P10.3

func TestSlotAsLongAsItIsUnderWay(t *testing.T) {
	s := newSpace(t, 3)
	put(s, 0, api.Held)
	put(s, 1, api.Live)
	x := newStart(t, s, 3, 7)
	for range 6 {
		wantUnderWay(t, x)
		if a := x.Step(); a != api.Ran {
			t.Error(a)
		}
	}
	wantSlot(t, x, 2, 1)
}

func TestSlotMakesNoAccess(t *testing.T) {
	s := newSpace(t, 1)
	x := newStart(t, s, 3, 7)
	for n := range 5 {
		for range 3 {
			x.Done()
			x.Slot()
		}
		if len(s.Log()) != n {
			t.Error(n, s.Log())
		}
		x.Step()
	}
}

func TestSlotStaysWhatItWas(t *testing.T) {
	s := newSpace(t, 1)
	x := newStart(t, s, 3, 7)
	goOn(t, x, 4)
	s.Slots().Doom(0, 1, 5)
	wantSlot(t, x, 0, 1)
	s.Slots().Free(0, 1)
	wantSlot(t, x, 0, 1)
	y := newStart(t, s, 3, 7)
	goOn(t, y, 4)
	wantSlot(t, x, 0, 1)
	wantSlot(t, y, 0, 2)
}

// P10.4

func TestGenerationsOfOneSlotRise(t *testing.T) {
	s := newSpace(t, 1)
	for gen := 1; gen <= 40; gen++ {
		thread := 1 + gen%8
		x := newStart(t, s, thread, 100-gen)
		goOn(t, x, 4)
		wantSlot(t, x, 0, gen)
		wantSlots(t, s, []api.Slot{{Head: live(gen, 100-gen, thread)}})
		s.Slots().Put(0, 0, uint64(gen))
		s.Slots().Put(0, 1, math.MaxUint64)
		s.Slots().Doom(0, gen, 2)
		s.Slots().Free(0, gen)
	}
}

func TestEveryScheduleOfThreeBegins(t *testing.T) {
	for n := 1; n <= 3; n++ {
		for _, order := range orders([]int{4, 4, 4}) {
			checkSchedule(t, n, order)
		}
	}
}

func TestNeverErrSlotsWhereOneStaysFree(t *testing.T) {
	rnd := rand.New(rand.NewSource(10))
	for range 300 {
		n := 1 + rnd.Intn(8)
		free := rnd.Intn(n)
		s := newSpace(t, n)
		x := newStart(t, s, 3, 7)
		for !x.Done() {
			for range rnd.Intn(4) {
				if slot := rnd.Intn(n); slot != free {
					disturb(rnd, s, slot, 4)
				}
			}
			if slot, e := lastOwn(s, 3); e == api.OK && slot != free {
				break
			}
			goOn(t, x, 1)
		}
		if _, _, e := x.Slot(); e == api.ErrSlots {
			t.Error(n, free, s.Slots().Now())
		}
	}
}

func TestMixedCallsAgainstAPlainBegin(t *testing.T) {
	rnd := rand.New(rand.NewSource(4))
	for range 1500 {
		n := 1 + rnd.Intn(8)
		s := newSpace(t, n)
		begins := make([]*start.Start, 3)
		plains := make([]*plain, 3)
		for i := range begins {
			thread, stamp := 1+rnd.Intn(8), 1+rnd.Intn(20)
			begins[i] = newStart(t, s, thread, stamp)
			plains[i] = &plain{thread: thread, stamp: stamp}
		}
		for range 40 {
			if rnd.Intn(3) == 0 {
				disturb(rnd, s, rnd.Intn(n), 1+rnd.Intn(8))
				continue
			}
			i := rnd.Intn(3)
			slots := s.Slots().Now()
			accesses := s.Log()
			answer, access := plains[i].step(slots)
			if a := begins[i].Step(); a != answer {
				t.Error("answer", a, "want", answer)
			}
			wantSlots(t, s, slots)
			wantLog(t, s, append(accesses, access...))
			wantPlain(t, begins[i], plains[i])
		}
	}
}

func TestSpacesHaveNothingInCommon(t *testing.T) {
	one, other := newSpace(t, 1), newSpace(t, 1)
	x, y := newStart(t, one, 3, 7), newStart(t, other, 4, 8)
	goOn(t, x, 2)
	goOn(t, y, 4)
	goOn(t, x, 2)
	wantSlot(t, x, 0, 1)
	wantSlot(t, y, 0, 1)
	wantSlots(t, one, []api.Slot{{Head: live(1, 7, 3)}})
	wantSlots(t, other, []api.Slot{{Head: live(1, 8, 4)}})
}

// The chapter's examples

func TestExampleOfTwoSlots(t *testing.T) {
	s := newSpace(t, 2)
	s.Slots().Claim(0, 5)
	x := newStart(t, s, 3, 7)
	for _, want := range []api.Access{
		{Kind: api.OnHead, At: 0, Op: api.OpTrade},
		{Kind: api.OnHead, At: 1, Op: api.OpTrade, Ok: true},
		{Kind: api.OnWord, At: 2, Op: api.OpStore, Ok: true},
		{Kind: api.OnWord, At: 3, Op: api.OpStore, Ok: true},
		{Kind: api.OnHead, At: 1, Op: api.OpTrade, Ok: true},
	} {
		wantUnderWay(t, x)
		goOn(t, x, 1)
		wantLast(t, s, want)
	}
	wantSlot(t, x, 1, 1)
	wantIdle(t, x)
}

func TestExampleOfOneSlot(t *testing.T) {
	s := newSpace(t, 1)
	s.Slots().Claim(0, 5)
	x := newStart(t, s, 3, 7)
	goOn(t, x, 1)
	wantError(t, x, api.ErrSlots)
	wantRefused(t, s, 0, 1)
	wantRefused(t, s, 1, 0)
}

// Help

func newSpace(t *testing.T, n int) *space.Space {
	t.Helper()
	s, e := space.New(api.Config{Cells: 2, Slots: n, Bits: 8, Tag: api.CommitWins})
	if e != api.OK {
		t.Fatal(n, e)
	}
	return s
}

func newStart(t *testing.T, s *space.Space, thread, stamp int) *start.Start {
	t.Helper()
	x, e := start.New(s, thread, stamp)
	if x == nil || e != api.OK {
		t.Fatal(thread, stamp, x, e)
	}
	return x
}

func held(gen, thread int) api.Head { return api.Head{Gen: gen, State: api.Held, Thread: thread} }

func live(gen, stamp, thread int) api.Head {
	return api.Head{Gen: gen, State: api.Live, Stamp: stamp, Thread: thread}
}

// put lets a slot of generation 0 be Free, Held, Live or (3) doomed, of thread 8 and generation 1, with words that tell slots apart.
func put(s *space.Space, slot, state int) {
	s.Slots().Claim(slot, 8)
	s.Slots().Put(slot, 0, uint64(2*slot+1))
	s.Slots().Put(slot, 1, uint64(2*slot+2))
	switch state {
	case api.Free:
		s.Slots().Free(slot, 1)
	case api.Live:
		s.Slots().Ready(slot, 1, 100)
	case 3:
		s.Slots().Ready(slot, 1, 100)
		s.Slots().Doom(slot, 1, 6)
	}
}

// checkTable plays a begin over slots in these states, with nobody else at work.
func checkTable(t *testing.T, states []int) {
	t.Helper()
	s := newSpace(t, len(states))
	for slot, state := range states {
		put(s, slot, state)
	}
	log, want := s.Log(), s.Slots().Now()
	x := newStart(t, s, 3, 7)
	tried := slices.Index(states, api.Free)
	own := tried >= 0
	if !own {
		tried = len(states)
	}
	for slot := range tried {
		log = append(log, api.Access{Kind: api.OnHead, At: slot, Op: api.OpTrade})
	}
	steps := tried
	if own {
		steps += 4
		log = append(log,
			api.Access{Kind: api.OnHead, At: tried, Op: api.OpTrade, Ok: true},
			api.Access{Kind: api.OnWord, At: 2 * tried, Op: api.OpStore, Ok: true},
			api.Access{Kind: api.OnWord, At: 2*tried + 1, Op: api.OpStore, Ok: true},
			api.Access{Kind: api.OnHead, At: tried, Op: api.OpTrade, Ok: true})
		want[tried] = api.Slot{Head: live(2, 7, 3)}
	}
	goOn(t, x, steps)
	if own {
		wantSlot(t, x, tried, 2)
	} else {
		wantError(t, x, api.ErrSlots)
	}
	wantIdle(t, x)
	wantSlots(t, s, want)
	wantLog(t, s, log)
}

// nextTable counts the states up; false behind the last one.
func nextTable(states []int, base int) bool {
	for i := range states {
		states[i]++
		if states[i] < base {
			return true
		}
		states[i] = 0
	}
	return false
}

// orders are all ways to mix so many steps of each.
func orders(left []int) [][]int {
	var all [][]int
	for i := range left {
		if left[i] == 0 {
			continue
		}
		left[i]--
		for _, rest := range orders(left) {
			all = append(all, append([]int{i}, rest...))
		}
		left[i]++
	}
	if all == nil {
		return [][]int{nil}
	}
	return all
}

// checkSchedule plays three begins in an order: as nobody frees a slot, as many get one as there are, and each slot is one begin's alone.
func checkSchedule(t *testing.T, n int, order []int) {
	t.Helper()
	s := newSpace(t, n)
	begins := make([]*start.Start, 3)
	for i := range begins {
		begins[i] = newStart(t, s, i+1, 10+i)
	}
	for _, i := range order {
		begins[i].Step()
	}
	for _, x := range begins {
		for range n {
			x.Step()
		}
	}
	want := make([]api.Slot, n)
	lives := 0
	for i, x := range begins {
		slot, gen, e := x.Slot()
		switch {
		case !x.Done():
			t.Error(n, order, "not done")
		case e == api.OK:
			lives++
			want[slot].Head = live(gen, 10+i, i+1)
			if gen != 1 {
				t.Error(n, order, gen)
			}
		default:
			wantError(t, x, api.ErrSlots)
		}
	}
	if lives != n {
		t.Error(n, order, "lives", lives)
	}
	wantSlots(t, s, want)
}

// disturb is what others may do to a slot.
func disturb(rnd *rand.Rand, s *space.Space, slot, thread int) {
	gen := s.Slots().Now()[slot].Head.Gen
	switch rnd.Intn(6) {
	case 0:
		s.Slots().Claim(slot, thread)
	case 1:
		s.Slots().Ready(slot, gen, 1+rnd.Intn(9))
	case 2:
		s.Slots().Doom(slot, gen, thread)
	case 3:
		s.Slots().Put(slot, rnd.Intn(2), rnd.Uint64())
	default:
		s.Slots().Free(slot, gen)
	}
}

// lastOwn is the slot that a thread holds.
func lastOwn(s *space.Space, thread int) (int, api.Errno) {
	for slot, one := range s.Slots().Now() {
		if one.Head.Thread == thread {
			return slot, api.OK
		}
	}
	return 0, api.ErrPlace
}

// plain is a begin as the chapter tells it: how many slots were refused, and how many steps were made in its own one.
type plain struct {
	thread, stamp int
	refused       int
	gen, made     int
	done          bool
	e             api.Errno
}

// step plays one step on slots, and tells its answer and its access.
func (p *plain) step(slots []api.Slot) (int, []api.Access) {
	if p.done {
		return api.Idle, nil
	}
	own := &slots[p.refused]
	access := api.Access{Kind: api.OnHead, At: p.refused, Op: api.OpTrade}
	switch p.made {
	case 0:
		if own.Head.State != api.Free {
			p.refused++
			if p.refused == len(slots) {
				p.done, p.e = true, api.ErrSlots
			}
			break
		}
		access.Ok = true
		p.gen, p.made = own.Head.Gen+1, 1
		own.Head = held(p.gen, p.thread)
	case 1, 2:
		own.Words[p.made-1] = 0
		access = api.Access{Kind: api.OnWord, At: 2*p.refused + p.made - 1, Op: api.OpStore, Ok: true}
		p.made++
	case 3:
		p.done = true
		if own.Head.State != api.Held || own.Head.Gen != p.gen {
			p.e = api.ErrState
			break
		}
		access.Ok = true
		own.Head.State, own.Head.Stamp = api.Live, p.stamp
	}
	return api.Ran, []api.Access{access}
}

func wantPlain(t *testing.T, x *start.Start, p *plain) {
	t.Helper()
	switch {
	case !p.done:
		wantUnderWay(t, x)
	case p.e != api.OK:
		wantError(t, x, p.e)
	default:
		wantSlot(t, x, p.refused, p.gen)
	}
}

func wantRefused(t *testing.T, s *space.Space, thread, stamp int) {
	t.Helper()
	log, slots := s.Log(), s.Slots().Now()
	if x, e := start.New(s, thread, stamp); x != nil || e != api.ErrArg {
		t.Error(thread, stamp, x, e)
	}
	wantLog(t, s, log)
	wantSlots(t, s, slots)
}

func goOn(t *testing.T, x *start.Start, steps int) {
	t.Helper()
	for range steps {
		if x.Done() {
			t.Error("done too early")
		}
		if a := x.Step(); a != api.Ran {
			t.Error("answer", a)
		}
	}
}

func wantIdle(t *testing.T, x *start.Start) {
	t.Helper()
	if a := x.Step(); a != api.Idle {
		t.Error("answer", a)
	}
}

func wantUnderWay(t *testing.T, x *start.Start) {
	t.Helper()
	slot, gen, e := x.Slot()
	if x.Done() || slot != 0 || gen != 0 || e != api.ErrState {
		t.Error(x.Done(), slot, gen, e)
	}
}

func wantSlot(t *testing.T, x *start.Start, slot, gen int) {
	t.Helper()
	s, g, e := x.Slot()
	if !x.Done() || s != slot || g != gen || e != api.OK {
		t.Error(x.Done(), s, g, e, "want", slot, gen)
	}
}

func wantError(t *testing.T, x *start.Start, want api.Errno) {
	t.Helper()
	slot, gen, e := x.Slot()
	if !x.Done() || slot != 0 || gen != 0 || e != want {
		t.Error(x.Done(), slot, gen, e, "want", want)
	}
}

func wantSlots(t *testing.T, s *space.Space, want []api.Slot) {
	t.Helper()
	if l := s.Slots().Now(); !slices.Equal(l, want) {
		t.Error(l, "want", want)
	}
}

func wantLog(t *testing.T, s *space.Space, want []api.Access) {
	t.Helper()
	if l := s.Log(); !slices.Equal(l, want) {
		t.Error(l, "want", want)
	}
}

func wantLast(t *testing.T, s *space.Space, want api.Access) {
	t.Helper()
	l := s.Log()
	if len(l) == 0 || l[len(l)-1] != want {
		t.Error(l, "want", want)
	}
}
