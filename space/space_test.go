package space_test

import (
	"math"
	"math/rand"
	"slices"
	"testing"

	"quash/api"
	"quash/space"
)

// P8.1

func TestCheckAtTheEdges(t *testing.T) {
	for _, f := range fields() {
		for _, n := range []int{f.least, f.least + 1, f.most - 1, f.most} {
			for tag := api.CommitWins; tag <= api.Aging; tag++ {
				c := plainConfig()
				c.Tag = tag
				*f.of(&c) = n
				if e := space.Check(c); e != api.OK {
					t.Error(f.name, n, c, e)
				}
			}
		}
	}
}

func TestCheckRefusesEachNumber(t *testing.T) {
	for _, f := range fields() {
		for _, n := range []int{f.least - 1, f.most + 1, -1, math.MinInt, math.MaxInt, math.MinInt32, 1 << 32} {
			for tag := api.CommitWins; tag <= api.Aging; tag++ {
				c := plainConfig()
				c.Tag = tag
				*f.of(&c) = n
				if e := space.Check(c); e != api.ErrArg {
					t.Error(f.name, n, c, e)
				}
				if s, e := space.New(c); s != nil || e != api.ErrArg {
					t.Error(f.name, n, c, s, e)
				}
			}
		}
	}
}

func TestCheckOfAllSmallNumbers(t *testing.T) {
	for _, f := range fields() {
		for n := -3; n <= api.MaxCells+3; n++ {
			c := plainConfig()
			*f.of(&c) = n
			want := api.OK
			if n < f.least || n > f.most {
				want = api.ErrArg
			}
			if e := space.Check(c); e != want {
				t.Error(f.name, n, e, "want", want)
			}
			if s, e := space.New(c); e != want || (s == nil) != (want != api.OK) {
				t.Error(f.name, n, s, e, "want", want)
			}
		}
	}
}

func TestCheckOfAllWrong(t *testing.T) {
	if e := space.Check(api.Config{}); e != api.ErrArg {
		t.Error(e)
	}
	c := api.Config{Cells: api.MaxCells + 1, Slots: api.MaxLive + 1, Bits: api.MaxBits + 1, Tag: api.Aging + 1, Bias: api.MaxBias + 1, Defer: api.MaxDefer + 1}
	if s, e := space.New(c); s != nil || e != api.ErrArg {
		t.Error(s, e)
	}
}

func TestNewIsOfTheConfig(t *testing.T) {
	for cells := 1; cells <= api.MaxCells; cells++ {
		for n := 1; n <= api.MaxLive; n++ {
			c := plainConfig()
			c.Cells, c.Slots = cells, n
			s := newSpace(t, c)
			wantView(t, s, api.View{Cells: make([]int64, cells), Slots: make([]api.Slot, n)})
			if s.Config() != c || s.Slots().Len() != n {
				t.Error(c, s.Config(), s.Slots().Len())
			}
			wantCounts(t, s, 0, 0, 0)
			wantLog(t, s)
			wantEvents(t, s)
		}
	}
}

func TestConfigStays(t *testing.T) {
	c := api.Config{Cells: 3, Slots: 2, Bits: 77, Tag: api.ReaderBias, Bias: 5, Defer: 41}
	s := newSpace(t, c)
	s.Turn(1)
	want(t, s.Fill([]int64{1, 2}), api.OK)
	want(t, s.Store(1, 9), api.OK)
	s.Note(api.Event{Kind: api.EventBegin})
	if s.Config() != c || s.Done() != 1 {
		t.Error(s.Config(), s.Done())
	}
}

// P8.2

func TestTurnsAndCounts(t *testing.T) {
	s := newSpace(t, plainConfig())
	load(t, s, 0, 0)
	load(t, s, 1, 0)
	wantCounts(t, s, 0, 2, 2)
	s.Turn(4)
	wantCounts(t, s, 1, 0, 2)
	for i := 1; i <= 5; i++ {
		want(t, s.Store(0, 7), api.OK)
		wantCounts(t, s, 1, i, max(i, 2))
	}
	s.Turn(4)
	s.Turn(2)
	wantCounts(t, s, 3, 0, 5)
	load(t, s, 0, 7)
	wantCounts(t, s, 3, 1, 5)
	store := api.Access{Step: 1, Thread: 4, Kind: api.OnCell, Op: api.OpStore, Ok: true}
	wantLog(t, s,
		api.Access{Kind: api.OnCell, At: 0, Op: api.OpLoad, Ok: true},
		api.Access{Kind: api.OnCell, At: 1, Op: api.OpLoad, Ok: true},
		store, store, store, store, store,
		api.Access{Step: 3, Thread: 2, Kind: api.OnCell, Op: api.OpLoad, Ok: true},
	)
}

func TestTurnTakesAnyThread(t *testing.T) {
	s := newSpace(t, plainConfig())
	for i, thread := range []int{0, -1, api.MaxThreads + 1, math.MinInt, math.MaxInt} {
		s.Turn(thread)
		load(t, s, 0, 0)
		wantCounts(t, s, i+1, 1, 1)
		if l := s.Log(); len(l) != i+1 || l[i].Thread != thread || l[i].Step != i+1 {
			t.Error(thread, l)
		}
	}
}

func TestLogIsNewMemory(t *testing.T) {
	s := newSpace(t, plainConfig())
	s.Turn(1)
	load(t, s, 0, 0)
	load(t, s, 1, 0)
	load(t, s, 0, 0)
	of := func(cell int) api.Access {
		return api.Access{Step: 1, Thread: 1, Kind: api.OnCell, At: cell, Op: api.OpLoad, Ok: true}
	}
	expected := []api.Access{of(0), of(1), of(0)}
	first, second := s.Log(), s.Log()
	spoil(first, api.Access{Step: -1})
	if !slices.Equal(second, expected) {
		t.Error("answers share memory", second)
	}
	wantLog(t, s, expected...)
	load(t, s, 1, 0)
	spoil(second, api.Access{Step: -1})
	wantLog(t, s, append(expected, of(1))...)
}

// P8.3

func TestEachCellIsItsOwn(t *testing.T) {
	c := plainConfig()
	for _, c.Cells = range []int{1, 2, 255, api.MaxCells} {
		s := newSpace(t, c)
		expected := make([]int64, c.Cells)
		for i := range c.Cells {
			s.Turn(3)
			load(t, s, i, 0)
			expected[i] = int64(i)*7 + 1
			want(t, s.Store(i, expected[i]), api.OK)
			load(t, s, i, expected[i])
			wantCounts(t, s, i+1, 3, 3)
			wantCells(t, s, expected...)
			at := api.Access{Step: i + 1, Thread: 3, Kind: api.OnCell, At: i, Op: api.OpLoad, Ok: true}
			stored := at
			stored.Op = api.OpStore
			if l := s.Log(); !slices.Equal(l[3*i:], []api.Access{at, stored, at}) {
				t.Error(i, l[3*i:])
			}
		}
	}
}

func TestCellsHoldAnyNumber(t *testing.T) {
	s := newSpace(t, plainConfig())
	for _, x := range []int64{0, -1, math.MaxInt64, math.MinInt64, 1 << 32} {
		want(t, s.Store(1, x), api.OK)
		load(t, s, 1, x)
		want(t, s.Fill([]int64{x}), api.OK)
		load(t, s, 0, x)
	}
}

func TestNoSuchCell(t *testing.T) {
	c := plainConfig()
	for _, c.Cells = range []int{1, 2, 255, api.MaxCells} {
		s := newSpace(t, c)
		expected := make([]int64, c.Cells)
		for i := range expected {
			expected[i] = int64(i) + 5
		}
		want(t, s.Fill(expected), api.OK)
		s.Turn(1)
		for _, cell := range []int{-1, c.Cells, c.Cells + 1, math.MinInt, math.MaxInt, 1 << 32} {
			if x, e := s.Load(cell); x != 0 || e != api.ErrPlace {
				t.Error(c.Cells, cell, x, e)
			}
			want(t, s.Store(cell, 9), api.ErrPlace)
		}
		wantCells(t, s, expected...)
		wantCounts(t, s, 1, 0, 0)
		wantLog(t, s)
	}
}

func TestFillOfEachLength(t *testing.T) {
	c := plainConfig()
	for _, c.Cells = range []int{1, 2, 5, api.MaxCells} {
		for n := 0; n <= c.Cells+2; n++ {
			s := newSpace(t, c)
			s.Turn(2)
			expected := make([]int64, c.Cells)
			for i := range expected {
				expected[i] = -int64(i) - 1
			}
			want(t, s.Fill(expected), api.OK)
			l := make([]int64, n)
			for i := range l {
				l[i] = int64(i) + 100
			}
			if n > c.Cells {
				want(t, s.Fill(l), api.ErrMany)
			} else {
				want(t, s.Fill(l), api.OK)
				copy(expected, l)
			}
			wantCells(t, s, expected...)
			wantCounts(t, s, 1, 0, 0)
			wantLog(t, s)
		}
	}
}

func TestFillOfNothing(t *testing.T) {
	s := newSpace(t, plainConfig())
	want(t, s.Store(0, 4), api.OK)
	want(t, s.Fill(nil), api.OK)
	want(t, s.Fill([]int64{}), api.OK)
	wantCells(t, s, 4, 0)
}

func TestFillKeepsNothing(t *testing.T) {
	s := newSpace(t, plainConfig())
	room := []int64{1, 2, 3, 4}
	want(t, s.Fill(room[:2]), api.OK)
	want(t, s.Store(0, 9), api.OK)
	if !slices.Equal(room, []int64{1, 2, 3, 4}) {
		t.Error("what was handed in is changed", room)
	}
	spoil(room, -1)
	wantCells(t, s, 9, 2)
	room = []int64{5, 6, 7, 8}
	want(t, s.Fill(room[:1]), api.OK)
	want(t, s.Fill(room), api.ErrMany)
	if !slices.Equal(room, []int64{5, 6, 7, 8}) {
		t.Error("what was handed in is changed", room)
	}
	wantCells(t, s, 5, 2)
}

// P8.4

func TestGateAndSlotsAreTheSameEachTime(t *testing.T) {
	s := newSpace(t, plainConfig())
	g, l := s.Gate(), s.Slots()
	if g == nil || l == nil {
		t.Fatal(g, l)
	}
	s.Turn(1)
	want(t, s.Fill([]int64{1}), api.OK)
	if n, e := g.Take(1); n != 1 || e != api.OK {
		t.Error(n, e)
	}
	if gen, e := l.Claim(0, 1); gen != 1 || e != api.OK {
		t.Error(gen, e)
	}
	s.View()
	s.Turn(2)
	if s.Gate() != g || s.Slots() != l {
		t.Error("another gate or table")
	}
	if got := s.Gate().Now(); got != (api.Gate{Number: 1, Owner: 1}) {
		t.Error(got)
	}
	if got := s.Slots().Now()[0].Head; got != (api.Head{Gen: 1, State: api.Held, Thread: 1}) {
		t.Error(got)
	}
}

func TestAskingIsNoAccess(t *testing.T) {
	s := newSpace(t, plainConfig())
	s.Turn(1)
	want(t, s.Store(0, 3), api.OK)
	s.Turn(2)
	for range 3 {
		s.View()
		s.Gate()
		s.Slots()
		s.Config()
		s.Events()
		s.Log()
		s.Step()
		s.Done()
		s.Most()
		s.Note(api.Event{})
	}
	wantCounts(t, s, 2, 0, 1)
	wantLog(t, s, api.Access{Step: 1, Thread: 1, Kind: api.OnCell, Op: api.OpStore, Ok: true})
}

func TestViewIsAllThatThreadsShare(t *testing.T) {
	c := plainConfig()
	c.Cells, c.Slots = 3, 2
	s := newSpace(t, c)
	fillAll(t, s)
	wantView(t, s, filled())
	want(t, s.Gate().Give(6), api.OK)
	want(t, s.Slots().Free(1, 1), api.OK)
	want(t, s.Store(1, 0), api.OK)
	now := filled()
	now.Cells[1], now.Gate, now.Slots[1].Head = 0, api.Gate{Number: 2}, api.Head{Gen: 1}
	wantView(t, s, now)
}

func TestViewIsNewMemory(t *testing.T) {
	c := plainConfig()
	c.Cells, c.Slots = 3, 2
	s := newSpace(t, c)
	fillAll(t, s)
	first, second := s.View(), s.View()
	spoil(first.Cells, -1)
	spoil(first.Slots, api.Slot{Head: api.Head{Gen: -1}, Words: api.Sig{9, 9}})
	if !sameView(second, filled()) {
		t.Error("answers share memory", second)
	}
	wantView(t, s, filled())
	want(t, s.Store(0, 77), api.OK)
	want(t, s.Gate().Give(6), api.OK)
	want(t, s.Slots().Put(0, 0, 77), api.OK)
	if !sameView(second, filled()) {
		t.Error("an answer changes behind its call", second)
	}
}

// P8.5

func TestNoteIsOfTheStepBegunLast(t *testing.T) {
	s := newSpace(t, plainConfig())
	var expected []api.Event
	for step := range 5 {
		for _, told := range []int{99, 0, -1, math.MinInt, math.MaxInt} {
			s.Note(api.Event{Kind: api.EventRead, Step: told, Thread: step})
			expected = append(expected, api.Event{Kind: api.EventRead, Step: step, Thread: step})
			wantEvents(t, s, expected...)
		}
		s.Turn(8)
	}
	wantCounts(t, s, 5, 0, 0)
	wantLog(t, s)
}

func TestNoteKeepsEachField(t *testing.T) {
	s := newSpace(t, plainConfig())
	s.Turn(1)
	s.Turn(2)
	all := api.Event{Kind: 1, Thread: 2, Stamp: 3, Cell: 4, X: 5, Own: true, Gate: 6, E: api.ErrDoomed, By: 7}
	odd := api.Event{Kind: -1, Thread: math.MaxInt, Stamp: math.MinInt, Cell: -9, X: math.MinInt64, Gate: -1, E: -5, By: 99}
	s.Note(all)
	s.Note(odd)
	s.Note(api.Event{})
	s.Note(all)
	all.Step, odd.Step = 2, 2
	wantEvents(t, s, all, odd, api.Event{Step: 2}, all)
}

func TestManyEvents(t *testing.T) {
	s := newSpace(t, plainConfig())
	var expected []api.Event
	for i := range 10000 {
		if i%3 == 0 {
			s.Turn(i)
		}
		s.Note(api.Event{X: int64(i)})
		expected = append(expected, api.Event{X: int64(i), Step: i/3 + 1})
	}
	wantEvents(t, s, expected...)
}

func TestEventsAreNewMemory(t *testing.T) {
	s := newSpace(t, plainConfig())
	expected := []api.Event{{Kind: 1}, {Kind: 2}, {Kind: 3}}
	for _, e := range expected {
		s.Note(e)
	}
	first, second := s.Events(), s.Events()
	spoil(first, api.Event{Kind: -1})
	if !slices.Equal(second, expected) {
		t.Error("answers share memory", second)
	}
	wantEvents(t, s, expected...)
	s.Note(api.Event{Kind: 4})
	spoil(second, api.Event{Kind: -1})
	wantEvents(t, s, append(expected, api.Event{Kind: 4})...)
}

// P8.6

func TestEveryAccessIsInTheLogInOrder(t *testing.T) {
	c := plainConfig()
	c.Cells, c.Slots = 3, 2
	s := newSpace(t, c)
	s.Turn(5)
	want(t, s.Slots().Put(1, 1, 4), api.OK)
	load(t, s, 2, 0)
	s.Gate().Look()
	s.Turn(6)
	s.Slots().Claim(1, 6)
	s.Slots().Claim(1, 5)
	s.Gate().Take(6)
	s.Gate().Take(5)
	want(t, s.Store(2, 1), api.OK)
	s.Slots().Look(0)
	s.Slots().Word(0, 1)
	wantLog(t, s,
		api.Access{Step: 1, Thread: 5, Kind: api.OnWord, At: 3, Op: api.OpStore, Ok: true},
		api.Access{Step: 1, Thread: 5, Kind: api.OnCell, At: 2, Op: api.OpLoad, Ok: true},
		api.Access{Step: 1, Thread: 5, Kind: api.OnGate, At: 0, Op: api.OpLoad, Ok: true},
		api.Access{Step: 2, Thread: 6, Kind: api.OnHead, At: 1, Op: api.OpTrade, Ok: true},
		api.Access{Step: 2, Thread: 6, Kind: api.OnHead, At: 1, Op: api.OpTrade, Ok: false},
		api.Access{Step: 2, Thread: 6, Kind: api.OnGate, At: 0, Op: api.OpTrade, Ok: true},
		api.Access{Step: 2, Thread: 6, Kind: api.OnGate, At: 0, Op: api.OpTrade, Ok: false},
		api.Access{Step: 2, Thread: 6, Kind: api.OnCell, At: 2, Op: api.OpStore, Ok: true},
		api.Access{Step: 2, Thread: 6, Kind: api.OnHead, At: 0, Op: api.OpLoad, Ok: true},
		api.Access{Step: 2, Thread: 6, Kind: api.OnWord, At: 1, Op: api.OpLoad, Ok: true},
	)
	wantCounts(t, s, 2, 7, 7)
}

func TestSpacesHaveNothingInCommon(t *testing.T) {
	c := plainConfig()
	c.Cells, c.Slots = 3, 2
	a, b := newSpace(t, c), newSpace(t, c)
	b.Turn(2)
	fillAll(t, a)
	a.Turn(1)
	load(t, a, 0, 11)
	a.Note(api.Event{Kind: 1})
	wantView(t, b, api.View{Cells: make([]int64, 3), Slots: make([]api.Slot, 2)})
	wantCounts(t, b, 1, 0, 0)
	wantLog(t, b)
	wantEvents(t, b)
	if a.Gate() == b.Gate() || a.Slots() == b.Slots() {
		t.Error("a gate or a table in common")
	}
	b.Note(api.Event{Kind: 2})
	want(t, b.Store(0, 8), api.OK)
	wantView(t, a, filled())
	wantEvents(t, a, api.Event{Kind: 1, Step: 1})
	wantEvents(t, b, api.Event{Kind: 2, Step: 1})
}

// TestMixedCalls holds a space against a plain one, by many mixed calls.
func TestMixedCalls(t *testing.T) {
	for seed := range int64(200) {
		r := rand.New(rand.NewSource(seed))
		c := api.Config{Cells: 1 + r.Intn(4), Slots: 1, Bits: 1 + r.Intn(128), Tag: 1 + r.Intn(3), Bias: r.Intn(9), Defer: r.Intn(65)}
		s := newSpace(t, c)
		p := &plain{cells: make([]int64, c.Cells)}
		for range 200 {
			p.play(t, s, r)
			if t.Failed() {
				t.Fatal(seed, c)
			}
		}
		wantCells(t, s, p.cells...)
		wantLog(t, s, p.log...)
		wantEvents(t, s, p.events...)
		if s.Config() != c {
			t.Error(c, s.Config())
		}
	}
}

// The chapter's examples

func TestExamples(t *testing.T) {
	s := newSpace(t, api.Config{Cells: 2, Slots: 1, Bits: 8, Tag: api.CommitWins})
	want(t, s.Fill([]int64{5}), api.OK)
	s.Turn(3)
	load(t, s, 0, 5)
	if n, e := s.Gate().Take(3); n != 1 || e != api.OK {
		t.Error(n, e)
	}
	wantCounts(t, s, 1, 2, 2)
	wantView(t, s, api.View{Cells: []int64{5, 0}, Gate: api.Gate{Number: 1, Owner: 3}, Slots: make([]api.Slot, 1)})
	if x, e := s.Load(2); x != 0 || e != api.ErrPlace {
		t.Error(x, e)
	}
	want(t, s.Fill([]int64{1, 2, 3}), api.ErrMany)

	s.Note(api.Event{Kind: api.EventRead, Step: 99})
	wantEvents(t, s, api.Event{Kind: api.EventRead, Step: 1})
	for _, c := range []api.Config{
		{Cells: 2, Slots: 1, Bits: 8},
		{Cells: 257, Slots: 1, Bits: 8, Tag: api.CommitWins},
		{Cells: 2, Slots: 1, Bits: 8, Tag: api.CommitWins, Defer: 65},
	} {
		if s, e := space.New(c); s != nil || e != api.ErrArg {
			t.Error(c, s, e)
		}
	}
}

// plain is what the chapter's words make of a space's calls.
type plain struct {
	cells        []int64
	log          []api.Access
	events       []api.Event
	step, thread int
	done, most   int
}

func (p *plain) play(t *testing.T, s *space.Space, r *rand.Rand) {
	t.Helper()
	cell, x := r.Intn(len(p.cells)+2)-1, int64(r.Uint64())
	in := cell >= 0 && cell < len(p.cells)
	switch r.Intn(6) {
	case 0:
		p.step, p.thread, p.done = p.step+1, cell, 0
		s.Turn(cell)
	case 1:
		if in {
			p.access(api.OnCell, cell, api.OpLoad)
			load(t, s, cell, p.cells[cell])
		} else if x, e := s.Load(cell); x != 0 || e != api.ErrPlace {
			t.Error(cell, x, e)
		}
	case 2:
		if in {
			p.access(api.OnCell, cell, api.OpStore)
			p.cells[cell] = x
			want(t, s.Store(cell, x), api.OK)
		} else {
			want(t, s.Store(cell, x), api.ErrPlace)
		}
	case 3:
		l := make([]int64, r.Intn(len(p.cells)+2))
		for i := range l {
			l[i] = x + int64(i)
		}
		if len(l) > len(p.cells) {
			want(t, s.Fill(l), api.ErrMany)
		} else {
			copy(p.cells, l)
			want(t, s.Fill(l), api.OK)
		}
	case 4:
		p.events = append(p.events, api.Event{Kind: 1, Step: p.step, X: x})
		s.Note(api.Event{Kind: 1, Step: cell, X: x})
	case 5:
		p.access(api.OnGate, 0, api.OpLoad)
		s.Gate().Look()
	}
	wantCounts(t, s, p.step, p.done, p.most)
}

func (p *plain) access(kind, at, op int) {
	p.done++
	p.most = max(p.most, p.done)
	p.log = append(p.log, api.Access{Step: p.step, Thread: p.thread, Kind: kind, At: at, Op: op, Ok: true})
}

// field is a number of a config, and what it may be.
type field struct {
	name        string
	least, most int
	of          func(*api.Config) *int
}

func fields() []field {
	return []field{
		{"cells", 1, 256, func(c *api.Config) *int { return &c.Cells }},
		{"slots", 1, 8, func(c *api.Config) *int { return &c.Slots }},
		{"bits", 1, 128, func(c *api.Config) *int { return &c.Bits }},
		{"tag", 1, 3, func(c *api.Config) *int { return &c.Tag }},
		{"bias", 0, 8, func(c *api.Config) *int { return &c.Bias }},
		{"defer", 0, 64, func(c *api.Config) *int { return &c.Defer }},
	}
}

func plainConfig() api.Config {
	return api.Config{Cells: 2, Slots: 1, Bits: 8, Tag: api.CommitWins}
}

// fillAll lets all that a space of 3 cells and 2 slots has hold what filled tells.
func fillAll(t *testing.T, s *space.Space) {
	t.Helper()
	want(t, s.Fill([]int64{11, 12, 13}), api.OK)
	if _, e := s.Gate().Take(6); e != api.OK {
		t.Error(e)
	}
	if _, e := s.Slots().Claim(1, 4); e != api.OK {
		t.Error(e)
	}
	want(t, s.Slots().Ready(1, 1, 9), api.OK)
	want(t, s.Slots().Put(0, 1, 21), api.OK)
	want(t, s.Slots().Put(1, 0, 22), api.OK)
}

func filled() api.View {
	return api.View{
		Cells: []int64{11, 12, 13},
		Gate:  api.Gate{Number: 1, Owner: 6},
		Slots: []api.Slot{
			{Words: api.Sig{0, 21}},
			{Head: api.Head{Gen: 1, State: api.Live, Stamp: 9, Thread: 4}, Words: api.Sig{22, 0}},
		},
	}
}

// spoil writes over a list, and over its spare room.
func spoil[T any](l []T, x T) {
	l = l[:cap(l)]
	for i := range l {
		l[i] = x
	}
}

func newSpace(t *testing.T, c api.Config) *space.Space {
	t.Helper()
	s, e := space.New(c)
	if s == nil || e != api.OK {
		t.Fatal(c, s, e)
	}
	return s
}

func load(t *testing.T, s *space.Space, cell int, want int64) {
	t.Helper()
	if x, e := s.Load(cell); x != want || e != api.OK {
		t.Error("cell", cell, x, e, "want", want)
	}
}

func want(t *testing.T, got, want api.Errno) {
	t.Helper()
	if got != want {
		t.Error(got, "want", want)
	}
}

func wantCounts(t *testing.T, s *space.Space, step, done, most int) {
	t.Helper()
	if s.Step() != step || s.Done() != done || s.Most() != most {
		t.Error("counts", s.Step(), s.Done(), s.Most(), "want", step, done, most)
	}
}

func wantCells(t *testing.T, s *space.Space, want ...int64) {
	t.Helper()
	if got := s.View().Cells; !slices.Equal(got, want) {
		t.Error("cells", got, "want", want)
	}
}

func wantView(t *testing.T, s *space.Space, want api.View) {
	t.Helper()
	if got := s.View(); !sameView(got, want) {
		t.Error("view", got, "want", want)
	}
}

func sameView(a, b api.View) bool {
	return slices.Equal(a.Cells, b.Cells) && a.Gate == b.Gate && slices.Equal(a.Slots, b.Slots)
}

func wantLog(t *testing.T, s *space.Space, want ...api.Access) {
	t.Helper()
	if got := s.Log(); !slices.Equal(got, want) {
		t.Error("log", got, "want", want)
	}
}

func wantEvents(t *testing.T, s *space.Space, want ...api.Event) {
	t.Helper()
	if got := s.Events(); !slices.Equal(got, want) {
		t.Error("events", got, "want", want)
	}
}
