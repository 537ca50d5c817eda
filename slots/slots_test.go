package slots_test

import (
	"math"
	"slices"
	"testing"

	"quash/api"
	"quash/mem"
	"quash/slots"
)

// P6.1

func TestNewIsFreeSlots(t *testing.T) {
	for n := 1; n <= api.MaxLive; n++ {
		for _, m := range []*mem.Meter{nil, mem.NewMeter()} {
			s := newTable(t, m, n)
			if s.Len() != n {
				t.Error(n, s.Len())
			}
			wantNow(t, s, make([]api.Slot, n)...)
			wantLog(t, m)
		}
	}
}

func TestNewRefusesNumbers(t *testing.T) {
	for _, n := range []int{0, -1, api.MaxLive + 1, math.MinInt, math.MaxInt} {
		if s, e := slots.New(mem.NewMeter(), n); s != nil || e != api.ErrArg {
			t.Error(n, s, e)
		}
	}
}

func TestNowIsNoAccess(t *testing.T) {
	m := mem.NewMeter()
	s := newTable(t, m, 2)
	claim(t, s, 1, 4, 1)
	want(t, s.Put(0, 1, 5), api.OK)
	m.Begin(2)
	for range 3 {
		wantNow(t, s, api.Slot{Words: api.Sig{0, 5}}, api.Slot{Head: api.Head{Gen: 1, State: api.Held, Thread: 4}})
	}
	if s.Len() != 2 || m.Done() != 0 || len(m.Log()) != 2 {
		t.Error(s.Len(), m.Done(), m.Log())
	}
}

func TestNowIsNewMemory(t *testing.T) {
	s := newTable(t, nil, 2)
	claim(t, s, 0, 4, 1)
	want(t, s.Put(1, 0, 3), api.OK)
	expected := []api.Slot{{Head: api.Head{Gen: 1, State: api.Held, Thread: 4}}, {Words: api.Sig{3, 0}}}
	first, second := s.Now(), s.Now()
	first = first[:cap(first)]
	for i := range first {
		first[i] = api.Slot{Head: api.Head{Gen: -1}, Words: api.Sig{9, 9}}
	}
	if !slices.Equal(second, expected) {
		t.Error("answers share memory", second)
	}
	wantNow(t, s, expected...)
	want(t, s.Ready(0, 1, 2), api.OK)
	want(t, s.Put(1, 1, 3), api.OK)
	if !slices.Equal(second, expected) {
		t.Error("an answer changes behind its call", second)
	}
}

// What holds for the five calls to heads alike.

func TestNoSuchSlot(t *testing.T) {
	for n := 1; n <= api.MaxLive; n++ {
		m := mem.NewMeter()
		s := newTable(t, m, n)
		for _, slot := range []int{-1, n, n + 1, math.MinInt, math.MaxInt} {
			for _, gen := range []int{0, 1} {
				if g, e := s.Claim(slot, 1); g != 0 || e != api.ErrPlace {
					t.Error(slot, g, e)
				}
				if h, e := s.Look(slot); h != (api.Head{}) || e != api.ErrPlace {
					t.Error(slot, h, e)
				}
				want(t, s.Ready(slot, gen, 1), api.ErrPlace)
				want(t, s.Doom(slot, gen, 1), api.ErrPlace)
				want(t, s.Free(slot, gen), api.ErrPlace)
			}
		}
		wantNow(t, s, make([]api.Slot, n)...)
		wantLog(t, m)
	}
}

func TestWrongNumbersAheadOfWrongPlaces(t *testing.T) {
	m := mem.NewMeter()
	s := newTable(t, m, 1)
	claim(t, s, 0, 3, 1)
	want(t, s.Ready(0, 1, 5), api.OK)
	before := s.Now()
	for _, slot := range []int{0, -1, 1, math.MinInt, math.MaxInt} {
		for _, thread := range []int{0, -1, api.MaxThreads + 1, math.MinInt, math.MaxInt} {
			if g, e := s.Claim(slot, thread); g != 0 || e != api.ErrArg {
				t.Error(slot, thread, g, e)
			}
			want(t, s.Doom(slot, 1, thread), api.ErrArg)
			want(t, s.Doom(slot, 2, thread), api.ErrArg)
		}
		for _, stamp := range []int{0, -1, math.MinInt} {
			want(t, s.Ready(slot, 1, stamp), api.ErrArg)
			want(t, s.Ready(slot, 2, stamp), api.ErrArg)
		}
	}
	wantNow(t, s, before...)
	wantLog(t, m, trade(0, true), trade(0, true))
}

func TestReadyRefusesStampsOfWhatIsHeld(t *testing.T) {
	m := mem.NewMeter()
	s := newTable(t, m, 1)
	claim(t, s, 0, 3, 1)
	for _, stamp := range []int{0, -1, math.MinInt} {
		want(t, s.Ready(0, 1, stamp), api.ErrArg)
	}
	wantHead(t, s, 0, api.Head{Gen: 1, State: api.Held, Thread: 3})
	wantLog(t, m, trade(0, true))
}

func TestAccessesAreOfTheStepBegunLast(t *testing.T) {
	m := mem.NewMeter()
	s := newTable(t, m, 4)
	m.Begin(5)
	claim(t, s, 2, 5, 1)
	m.Begin(6)
	s.Look(2)
	m.Begin(5)
	want(t, s.Put(3, 0, 1), api.OK)
	s.Word(3, 1)
	if m.Steps() != 3 || m.Done() != 2 || m.Most() != 2 {
		t.Error(m.Steps(), m.Done(), m.Most())
	}
	wantLog(t, m,
		api.Access{Step: 1, Thread: 5, Kind: api.OnHead, At: 2, Op: api.OpTrade, Ok: true},
		api.Access{Step: 2, Thread: 6, Kind: api.OnHead, At: 2, Op: api.OpLoad, Ok: true},
		api.Access{Step: 3, Thread: 5, Kind: api.OnWord, At: 6, Op: api.OpStore, Ok: true},
		api.Access{Step: 3, Thread: 5, Kind: api.OnWord, At: 7, Op: api.OpLoad, Ok: true},
	)
}

// P6.2

func TestClaimOfEachSlotByEachThread(t *testing.T) {
	for slot := range api.MaxLive {
		for thread := 1; thread <= api.MaxThreads; thread++ {
			m := mem.NewMeter()
			s := newTable(t, m, api.MaxLive)
			claim(t, s, slot, thread, 1)
			expected := make([]api.Slot, api.MaxLive)
			expected[slot].Head = api.Head{Gen: 1, State: api.Held, Thread: thread}
			wantNow(t, s, expected...)
			wantLog(t, m, trade(slot, true))
		}
	}
}

func TestClaimOfWhatIsNotFree(t *testing.T) {
	for name, head := range heads() {
		if head.State == api.Free {
			continue
		}
		for thread := 1; thread <= api.MaxThreads; thread++ {
			m, s := tableWith(t, head)
			if g, e := s.Claim(1, thread); g != 0 || e != api.ErrHeld {
				t.Error(name, thread, g, e)
			}
			wantHead(t, s, 1, head)
			wantOne(t, m, trade(1, false))
		}
	}
}

func TestClaimLeavesWords(t *testing.T) {
	s := newTable(t, nil, 1)
	want(t, s.Put(0, 0, 5), api.OK)
	want(t, s.Put(0, 1, 6), api.OK)
	claim(t, s, 0, 1, 1)
	want(t, s.Ready(0, 1, 1), api.OK)
	want(t, s.Doom(0, 1, 2), api.OK)
	want(t, s.Free(0, 1), api.OK)
	claim(t, s, 0, 2, 2)
	if got := s.Now()[0].Words; got != (api.Sig{5, 6}) {
		t.Error(got)
	}
}

// P6.3 to P6.6: each call on each head that a slot may have, with each generation.

func TestReady(t *testing.T) {
	for name, head := range heads() {
		for gen := -1; gen <= head.Gen+2; gen++ {
			for _, stamp := range []int{1, 77, math.MaxInt} {
				m, s := tableWith(t, head)
				e, after := api.ErrState, head
				if head.State == api.Held && gen == head.Gen {
					e = api.OK
					after = api.Head{Gen: head.Gen, State: api.Live, Stamp: stamp, Thread: head.Thread}
				}
				if got := s.Ready(1, gen, stamp); got != e {
					t.Error(name, gen, stamp, got, e)
				}
				wantHead(t, s, 1, after)
				wantOne(t, m, trade(1, e == api.OK))
			}
		}
	}
}

func TestLookIsOneLoad(t *testing.T) {
	for name, head := range heads() {
		m, s := tableWith(t, head)
		if got, e := s.Look(1); got != head || e != api.OK {
			t.Error(name, got, e)
		}
		wantHead(t, s, 1, head)
		wantOne(t, m, api.Access{Kind: api.OnHead, At: 1, Op: api.OpLoad, Ok: true})
	}
}

func TestDoom(t *testing.T) {
	for name, head := range heads() {
		for gen := -1; gen <= head.Gen+2; gen++ {
			for by := 1; by <= api.MaxThreads; by++ {
				m, s := tableWith(t, head)
				e, after := api.ErrState, head
				if head.State == api.Live && gen == head.Gen {
					e = api.OK
					after.Doomed = true
					if !head.Doomed {
						after.By = by
					}
				}
				if got := s.Doom(1, gen, by); got != e {
					t.Error(name, gen, by, got, e)
				}
				wantHead(t, s, 1, after)
				wantOne(t, m, trade(1, e == api.OK))
			}
		}
	}
}

func TestFree(t *testing.T) {
	for name, head := range heads() {
		for gen := -1; gen <= head.Gen+2; gen++ {
			m, s := tableWith(t, head)
			e, after := api.ErrState, head
			if head.State != api.Free && gen == head.Gen {
				e, after = api.OK, api.Head{Gen: head.Gen}
			}
			if got := s.Free(1, gen); got != e {
				t.Error(name, gen, got, e)
			}
			wantHead(t, s, 1, after)
			wantOne(t, m, trade(1, e == api.OK))
		}
	}
}

func TestGenerationsThatCannotBe(t *testing.T) {
	for name, head := range heads() {
		for _, gen := range []int{math.MinInt, math.MaxInt} {
			m, s := tableWith(t, head)
			want(t, s.Ready(1, gen, 1), api.ErrState)
			want(t, s.Doom(1, gen, 1), api.ErrState)
			want(t, s.Free(1, gen), api.ErrState)
			wantHead(t, s, 1, head)
			if m.Done() != 3 {
				t.Error(name, gen, m.Log())
			}
		}
	}
}

// P6.7

func TestWordsOfAllSlots(t *testing.T) {
	for n := 1; n <= api.MaxLive; n++ {
		m := mem.NewMeter()
		s := newTable(t, m, n)
		expected := make([]api.Slot, n)
		var log []api.Access
		for slot := range n {
			for word := range api.SigWords {
				x := math.MaxUint64 - uint64(slot*10+word)
				want(t, s.Put(slot, word, x), api.OK)
				expected[slot].Words[word] = x
				log = append(log, api.Access{Kind: api.OnWord, At: slot*api.SigWords + word, Op: api.OpStore, Ok: true})
			}
		}
		wantNow(t, s, expected...)
		for slot := range n {
			for word := range api.SigWords {
				wantWord(t, s, slot, word, expected[slot].Words[word])
				log = append(log, api.Access{Kind: api.OnWord, At: slot*api.SigWords + word, Op: api.OpLoad, Ok: true})
			}
		}
		wantNow(t, s, expected...)
		wantLog(t, m, log...)
	}
}

func TestPutWhateverTheHeadIs(t *testing.T) {
	for _, head := range heads() {
		_, s := tableWith(t, head)
		wantWord(t, s, 1, 1, 0)
		want(t, s.Put(1, 1, 8), api.OK)
		wantWord(t, s, 1, 1, 8)
		want(t, s.Put(1, 1, 0), api.OK)
		wantWord(t, s, 1, 1, 0)
		wantHead(t, s, 1, head)
	}
}

func TestNoSuchWord(t *testing.T) {
	m := mem.NewMeter()
	s := newTable(t, m, 3)
	for _, c := range [][2]int{
		{0, -1}, {1, -1}, {2, -1}, {0, api.SigWords}, {1, api.SigWords}, {2, api.SigWords}, {0, 3}, {1, -2},
		{-1, 0}, {-1, 1}, {-1, api.SigWords}, {3, 0}, {3, -1}, {3, -2}, {1, math.MinInt}, {1, math.MaxInt},
		{math.MinInt, 0}, {math.MaxInt, 0}, {math.MaxInt, api.SigWords}, {math.MinInt, 1}, {1 << 62, 0}, {1<<62 + 1, 1}, {1 << 63 / 4 * 2, 1},
	} {
		if x, e := s.Word(c[0], c[1]); x != 0 || e != api.ErrPlace {
			t.Error(c, x, e)
		}
		want(t, s.Put(c[0], c[1], 7), api.ErrPlace)
	}
	wantNow(t, s, make([]api.Slot, 3)...)
	wantLog(t, m)
}

// P6.8

func TestGenerationsRise(t *testing.T) {
	s := newTable(t, nil, 2)
	for gen := 1; gen <= 1000; gen++ {
		thread := gen%api.MaxThreads + 1
		claim(t, s, 1, thread, gen)
		if gen%3 > 0 {
			want(t, s.Ready(1, gen, gen*2), api.OK)
		}
		if gen%3 > 1 {
			want(t, s.Doom(1, gen, 1), api.OK)
		}
		want(t, s.Free(1, gen), api.OK)
		wantNow(t, s, api.Slot{}, api.Slot{Head: api.Head{Gen: gen}})
	}
}

func TestGenerationsThatAreOver(t *testing.T) {
	for name, head := range heads() {
		for gen := range head.Gen {
			_, s := tableWith(t, head)
			want(t, s.Ready(1, gen, 3), api.ErrState)
			want(t, s.Doom(1, gen, 3), api.ErrState)
			want(t, s.Free(1, gen), api.ErrState)
			if got := s.Now()[1].Head; got != head {
				t.Error(name, gen, got)
			}
		}
	}
}

func TestDoomedTillFreed(t *testing.T) {
	s := newTable(t, nil, 1)
	claim(t, s, 0, 2, 1)
	want(t, s.Ready(0, 1, 4), api.OK)
	want(t, s.Doom(0, 1, 7), api.OK)
	doomed := api.Head{Gen: 1, State: api.Live, Stamp: 4, Thread: 2, Doomed: true, By: 7}
	s.Claim(0, 3)
	s.Ready(0, 1, 5)
	s.Doom(0, 1, 3)
	s.Free(0, 0)
	s.Free(0, 2)
	s.Put(0, 0, 1)
	wantHead(t, s, 0, doomed)
	want(t, s.Free(0, 1), api.OK)
	claim(t, s, 0, 3, 2)
	wantHead(t, s, 0, api.Head{Gen: 2, State: api.Held, Thread: 3})
	want(t, s.Ready(0, 2, 6), api.OK)
	wantHead(t, s, 0, api.Head{Gen: 2, State: api.Live, Stamp: 6, Thread: 3})
}

// TestEveryOrderOfCalls holds a slot against a plain one, by all orders of six calls.
func TestEveryOrderOfCalls(t *testing.T) {
	const kinds, length = 9, 6
	orders := 1
	for range length {
		orders *= kinds
	}
	for order := range orders {
		m := mem.NewMeter()
		s := newTable(t, m, 1)
		p := &plain{n: 1, all: make([]api.Slot, 1)}
		for rest, i := order, 0; i < length; rest, i = rest/kinds, i+1 {
			c := shortCall(rest % kinds)
			wantN, wantE := p.do(c)
			if n, e := do(s, c); n != wantN || e != wantE {
				t.Fatal(order, i, c, n, e, wantN, wantE)
			}
		}
		if !slices.Equal(s.Now(), p.all) || !slices.Equal(m.Log(), p.log) {
			t.Fatal(order, s.Now(), p.all, m.Log(), p.log)
		}
	}
}

// TestManyCalls holds tables against plain ones, by calls of all kinds with numbers right and wrong.
func TestManyCalls(t *testing.T) {
	seed := uint32(7)
	next := func(n uint32) int {
		seed = seed*1664525 + 1013904223
		return int((seed >> 8) % n)
	}
	for round := range 200 {
		m := mem.NewMeter()
		n := next(api.MaxLive) + 1
		s := newTable(t, m, n)
		p := &plain{n: n, all: make([]api.Slot, n)}
		gens := make([]int, n)
		for i := range 400 {
			c := call{kind: next(7), slot: next(uint32(n)+2) - 1, thread: next(10), stamp: next(5), word: next(4) - 1, x: uint64(next(3))}
			if c.slot >= 0 && c.slot < n {
				c.gen = max(0, p.all[c.slot].Head.Gen-next(8)/6)
			}
			wantN, wantE := p.do(c)
			got, e := do(s, c)
			if got != wantN || e != wantE || !slices.Equal(s.Now(), p.all) {
				t.Fatal(round, i, c, got, e, wantN, wantE, s.Now(), p.all)
			}
			for slot, x := range s.Now() {
				if x.Head.Gen < gens[slot] {
					t.Fatal("a generation falls", round, i, slot)
				}
				gens[slot] = x.Head.Gen
			}
		}
		if !slices.Equal(m.Log(), p.log) {
			t.Fatal(round, m.Log(), p.log)
		}
	}
}

func TestTablesHaveNothingInCommon(t *testing.T) {
	m := mem.NewMeter()
	a, b := newTable(t, m, 1), newTable(t, m, 2)
	claim(t, a, 0, 1, 1)
	claim(t, b, 0, 2, 1)
	want(t, b.Free(0, 1), api.OK)
	want(t, a.Put(0, 1, 4), api.OK)
	want(t, b.Put(0, 0, 5), api.OK)
	wantNow(t, a, api.Slot{Head: api.Head{Gen: 1, State: api.Held, Thread: 1}, Words: api.Sig{0, 4}})
	wantNow(t, b, api.Slot{Head: api.Head{Gen: 1}, Words: api.Sig{5, 0}}, api.Slot{})
	if len(m.Log()) != 5 {
		t.Error(m.Log())
	}
}

func TestNilMeter(t *testing.T) {
	s := newTable(t, nil, 2)
	claim(t, s, 1, 3, 1)
	if g, e := s.Claim(1, 2); g != 0 || e != api.ErrHeld {
		t.Error(g, e)
	}
	want(t, s.Doom(1, 1, 2), api.ErrState)
	want(t, s.Ready(1, 1, 1), api.OK)
	want(t, s.Doom(1, 1, 2), api.OK)
	want(t, s.Put(1, 0, 6), api.OK)
	wantWord(t, s, 1, 0, 6)
	wantHead(t, s, 1, api.Head{Gen: 1, State: api.Live, Stamp: 1, Thread: 3, Doomed: true, By: 2})
	want(t, s.Free(1, 1), api.OK)
	wantHead(t, s, 1, api.Head{Gen: 1})
}

// The chapter's examples

func TestFirstExample(t *testing.T) {
	s := newTable(t, mem.NewMeter(), 2)
	claim(t, s, 0, 3, 1)
	wantHead(t, s, 0, api.Head{Gen: 1, State: api.Held, Thread: 3})
	if g, e := s.Claim(0, 4); g != 0 || e != api.ErrHeld {
		t.Error(g, e)
	}
	want(t, s.Ready(0, 2, 9), api.ErrState)
	want(t, s.Ready(0, 1, 9), api.OK)
	want(t, s.Doom(0, 1, 5), api.OK)
	want(t, s.Doom(0, 1, 6), api.OK)
	wantHead(t, s, 0, api.Head{Gen: 1, State: api.Live, Stamp: 9, Thread: 3, Doomed: true, By: 5})
	want(t, s.Free(0, 1), api.OK)
	wantHead(t, s, 0, api.Head{Gen: 1})
	want(t, s.Free(0, 1), api.ErrState)
	claim(t, s, 0, 4, 2)
	want(t, s.Doom(0, 2, 5), api.ErrState)
}

func TestSecondExample(t *testing.T) {
	m := mem.NewMeter()
	s := newTable(t, m, 2)
	want(t, s.Put(1, 1, 7), api.OK)
	wantLog(t, m, api.Access{Kind: api.OnWord, At: 3, Op: api.OpStore, Ok: true})
	wantWord(t, s, 1, 1, 7)
	_, a := s.Word(1, 2)
	_, b := s.Word(2, 0)
	_, c := s.Look(-1)
	want(t, a, api.ErrPlace)
	want(t, b, api.ErrPlace)
	want(t, c, api.ErrPlace)
	_, d := s.Claim(7, 9)
	want(t, d, api.ErrArg)
	want(t, s.Ready(7, 1, 0), api.ErrArg)
	want(t, s.Doom(7, 1, 0), api.ErrArg)
	for _, n := range []int{0, 9} {
		if s, e := slots.New(nil, n); s != nil || e != api.ErrArg {
			t.Error(n, s, e)
		}
	}
	if len(m.Log()) != 2 {
		t.Error(m.Log())
	}
}

// heads are all that a slot's head may be, of the first generation and of a later one.
func heads() map[string]api.Head {
	return map[string]api.Head{
		"new":          {},
		"held":         {Gen: 1, State: api.Held, Thread: 8},
		"live":         {Gen: 1, State: api.Live, Thread: 8, Stamp: 5},
		"doomed":       {Gen: 1, State: api.Live, Thread: 8, Stamp: 5, Doomed: true, By: 3},
		"free":         {Gen: 1},
		"held again":   {Gen: 3, State: api.Held, Thread: 1},
		"live again":   {Gen: 3, State: api.Live, Thread: 1, Stamp: 9},
		"doomed again": {Gen: 3, State: api.Live, Thread: 1, Stamp: 9, Doomed: true, By: 1},
		"free again":   {Gen: 3},
	}
}

// tableWith is a table of three slots, of which slot 1 has come to that head, and a step of thread 7 that has made no access yet.
func tableWith(t *testing.T, head api.Head) (*mem.Meter, *slots.Table) {
	t.Helper()
	m := mem.NewMeter()
	s := newTable(t, m, 3)
	for gen := 1; gen < head.Gen || gen == head.Gen && head.State == api.Free; gen++ {
		claim(t, s, 1, 6, gen)
		want(t, s.Free(1, gen), api.OK)
	}
	if head.State != api.Free {
		claim(t, s, 1, head.Thread, head.Gen)
	}
	if head.State == api.Live {
		want(t, s.Ready(1, head.Gen, head.Stamp), api.OK)
	}
	if head.Doomed {
		want(t, s.Doom(1, head.Gen, head.By), api.OK)
	}
	wantNow(t, s, api.Slot{}, api.Slot{Head: head}, api.Slot{})
	m.Begin(7)
	return m, s
}

// call is one of a table's, with all numbers that it may take.
type call struct {
	kind, slot, gen, thread, stamp, word int
	x                                    uint64
}

const (
	claims = iota
	readies
	looks
	dooms
	frees
	words
	puts
)

// shortCall is one of those that all orders are made of.
func shortCall(i int) call {
	return []call{
		{kind: claims, thread: 1},
		{kind: claims, thread: 2},
		{kind: readies, gen: 1, stamp: 4},
		{kind: readies, gen: 2, stamp: 5},
		{kind: dooms, gen: 1, thread: 3},
		{kind: dooms, gen: 1, thread: 4},
		{kind: dooms, gen: 2, thread: 3},
		{kind: frees, gen: 1},
		{kind: frees, gen: 2},
	}[i]
}

// answer is what any call answers beside its error.
type answer struct {
	gen  int
	head api.Head
	word uint64
}

func do(s *slots.Table, c call) (answer, api.Errno) {
	var a answer
	e := api.OK
	switch c.kind {
	case claims:
		a.gen, e = s.Claim(c.slot, c.thread)
	case readies:
		e = s.Ready(c.slot, c.gen, c.stamp)
	case looks:
		a.head, e = s.Look(c.slot)
	case dooms:
		e = s.Doom(c.slot, c.gen, c.thread)
	case frees:
		e = s.Free(c.slot, c.gen)
	case words:
		a.word, e = s.Word(c.slot, c.word)
	case puts:
		e = s.Put(c.slot, c.word, c.x)
	}
	return a, e
}

// plain is what the chapter's words make of a table.
type plain struct {
	n   int
	all []api.Slot
	log []api.Access
}

func (p *plain) do(c call) (answer, api.Errno) {
	badThread := c.thread < 1 || c.thread > 8
	onWord := c.kind == words || c.kind == puts
	switch {
	case badThread && (c.kind == claims || c.kind == dooms), c.stamp < 1 && c.kind == readies:
		return answer{}, api.ErrArg
	case c.slot < 0 || c.slot >= p.n || onWord && (c.word < 0 || c.word > 1):
		return answer{}, api.ErrPlace
	case onWord:
		return p.onWord(c), api.OK
	case c.kind == looks:
		p.log = append(p.log, api.Access{Kind: api.OnHead, At: c.slot, Op: api.OpLoad, Ok: true})
		return answer{head: p.all[c.slot].Head}, api.OK
	}
	a, e := p.onHead(c)
	p.log = append(p.log, trade(c.slot, e == api.OK))
	return a, e
}

func (p *plain) onWord(c call) answer {
	a := api.Access{Kind: api.OnWord, At: c.slot*2 + c.word, Op: api.OpLoad, Ok: true}
	word := &p.all[c.slot].Words[c.word]
	if c.kind == words {
		p.log = append(p.log, a)
		return answer{word: *word}
	}
	a.Op = api.OpStore
	p.log = append(p.log, a)
	*word = c.x
	return answer{}
}

func (p *plain) onHead(c call) (answer, api.Errno) {
	h := &p.all[c.slot].Head
	if c.kind == claims {
		if h.State != api.Free {
			return answer{}, api.ErrHeld
		}
		*h = api.Head{Gen: h.Gen + 1, State: api.Held, Thread: c.thread}
		return answer{gen: h.Gen}, api.OK
	}
	state := map[int]bool{readies: h.State == api.Held, dooms: h.State == api.Live, frees: h.State != api.Free}
	if !state[c.kind] || h.Gen != c.gen {
		return answer{}, api.ErrState
	}
	switch {
	case c.kind == readies:
		h.State, h.Stamp = api.Live, c.stamp
	case c.kind == frees:
		*h = api.Head{Gen: h.Gen}
	case !h.Doomed:
		h.Doomed, h.By = true, c.thread
	}
	return answer{}, api.OK
}

// trade is one of a head, ahead of every step.
func trade(slot int, ok bool) api.Access {
	return api.Access{Kind: api.OnHead, At: slot, Op: api.OpTrade, Ok: ok}
}

func newTable(t *testing.T, m *mem.Meter, n int) *slots.Table {
	t.Helper()
	s, e := slots.New(m, n)
	if s == nil || e != api.OK {
		t.Fatal(n, e)
	}
	return s
}

func claim(t *testing.T, s *slots.Table, slot, thread, gen int) {
	t.Helper()
	if g, e := s.Claim(slot, thread); g != gen || e != api.OK {
		t.Error(slot, thread, g, e, "want", gen)
	}
}

func want(t *testing.T, got, e api.Errno) {
	t.Helper()
	if got != e {
		t.Error("answered", got, "want", e)
	}
}

// wantHead asks without an access, and so leaves the log as it is.
func wantHead(t *testing.T, s *slots.Table, slot int, head api.Head) {
	t.Helper()
	if got := s.Now()[slot].Head; got != head {
		t.Error("head", slot, got, "want", head)
	}
}

func wantWord(t *testing.T, s *slots.Table, slot, word int, x uint64) {
	t.Helper()
	if got, e := s.Word(slot, word); got != x || e != api.OK {
		t.Error("word", slot, word, got, e, "want", x)
	}
}

func wantNow(t *testing.T, s *slots.Table, all ...api.Slot) {
	t.Helper()
	if got := s.Now(); !slices.Equal(got, all) {
		t.Error("now", got, "want", all)
	}
}

func wantLog(t *testing.T, m *mem.Meter, all ...api.Access) {
	t.Helper()
	if got := m.Log(); !slices.Equal(got, all) {
		t.Error("log", got, "want", all)
	}
}

// wantOne asks for this access, and no other one, in the step that tableWith began.
func wantOne(t *testing.T, m *mem.Meter, a api.Access) {
	t.Helper()
	a.Step, a.Thread = 1, 7
	l := m.Log()
	if m.Steps() != 1 || m.Done() != 1 || l[len(l)-1] != a {
		t.Error("log", l, "want", a)
	}
}
