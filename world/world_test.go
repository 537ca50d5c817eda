package world_test

import (
	"math"
	"math/rand"
	"slices"
	"testing"

	"quash/api"
	"quash/ghost"
	"quash/prog"
	"quash/sched"
	"quash/script"
	"quash/space"
	"quash/world"
)

const (
	telling = "push 4\ntell"
	adding  = "begin\npush 0\npush 0\nload\npush 3\nadd\nstore\ncommit"
	forever = "a:\njump a"
)

// P24.1

func TestNewIsAtItsBeginning(t *testing.T) {
	s := scripted(t, wins(3, 2), []int64{5, -6}, adding, telling, forever)
	s.Picks, s.Drain = []int{0, 1, 2}, 100
	w := newWorld(t, s)
	if w.Threads() != 3 {
		t.Error(w.Threads())
	}
	x := look(t, w)
	wantCells(t, w, 5, -6, 0)
	if x.view.Gate != (api.Gate{}) || !slices.Equal(x.view.Slots, make([]api.Slot, 2)) {
		t.Error(x.view)
	}
	if len(x.events)+len(x.stories)+len(x.log) > 0 {
		t.Error(x)
	}
	for i := range 3 {
		if !same(x.states[i], api.ProgState{}) || !same(x.peers[i], api.Peer{}) {
			t.Error(x.states[i], x.peers[i])
		}
	}
}

func TestNewOfAllLimits(t *testing.T) {
	c := api.Config{Cells: 256, Slots: 8, Bits: 128, Tag: api.ReaderBias, Bias: 8, Defer: 64}
	s := api.Script{Config: c, Start: slices.Repeat([]int64{math.MinInt64}, 256), Picks: make([]int, 65536), Drain: 65536}
	for range 8 {
		s.Programs = append(s.Programs, slices.Repeat([]api.Instr{in(api.DoHalt, 0)}, 400))
	}
	w := newWorld(t, s)
	if w.Threads() != 8 {
		t.Error(w.Threads())
	}
	wantCells(t, w, s.Start...)
}

func TestNewTellsWhatCheckTells(t *testing.T) {
	good := scripted(t, wins(2, 2), []int64{1}, telling, adding)
	for name, spoil := range map[string]func(s *api.Script){
		"cells":      func(s *api.Script) { s.Config.Cells = 257 },
		"no config":  func(s *api.Script) { s.Config = api.Config{} },
		"start":      func(s *api.Script) { s.Start = make([]int64, 3) },
		"no threads": func(s *api.Script) { s.Programs = nil },
		"threads":    func(s *api.Script) { s.Programs = slices.Repeat(s.Programs[:1], 9) },
		"no code":    func(s *api.Script) { s.Programs = [][]api.Instr{s.Programs[0], nil} },
		"long code":  func(s *api.Script) { s.Programs[1] = make([]api.Instr, 401) },
		"op":         func(s *api.Script) { s.Programs[1][0].Op = 23 },
		"operand":    func(s *api.Script) { s.Programs[1][0].A = 1 },
		"picks":      func(s *api.Script) { s.Picks = make([]int, 65537) },
		"drain":      func(s *api.Script) { s.Drain = -1 },
		"long drain": func(s *api.Script) { s.Drain = 65537 },
		"config and threads": func(s *api.Script) {
			s.Config.Tag, s.Programs = 4, nil
		},
		"start and picks": func(s *api.Script) { s.Start, s.Drain = make([]int64, 3), -1 },
		"code and drain":  func(s *api.Script) { s.Programs[0], s.Drain = nil, -1 },
	} {
		s := good
		s.Programs = [][]api.Instr{slices.Clone(good.Programs[0]), slices.Clone(good.Programs[1])}
		spoil(&s)
		want := script.Check(s)
		if want == api.OK {
			t.Fatal(name)
		}
		if w, e := world.New(s); w != nil || e != want {
			t.Error(name, w, e, "want", want)
		}
	}
}

// P24.2

func TestStepOfNoThread(t *testing.T) {
	w := made(t, wins(1, 1), nil, adding, forever)
	goOn(t, w, 1, 6)
	before := look(t, w)
	for _, thread := range []int{0, 3, -1, 9, 99, math.MinInt, math.MaxInt} {
		if a := w.Step(thread); a != api.None {
			t.Error(thread, a)
		}
	}
	wantSeen(t, w, before)
	// No step was begun either: the next one is the seventh.
	goOn(t, w, 1, 1)
	if l := w.Log(); l[len(l)-1].Step != 7 {
		t.Error(l)
	}
}

func TestStepOfAThreadThatHasEnded(t *testing.T) {
	for _, text := range []string{telling, "halt", "pop", "load", "begin\nhalt"} {
		w := made(t, wins(1, 2), nil, text, adding)
		goOn(t, w, 2, 7)
		finish(t, w, 1)
		before := look(t, w)
		for range 3 {
			if a := w.Step(1); a != api.Ended {
				t.Error(text, a)
			}
		}
		wantSeen(t, w, before)
		// No step was begun either: the next access is of the next one.
		next := w.Space.Step() + 1
		until(t, w, 2, func() bool { return len(w.Log()) > len(before.log) })
		if l := w.Log(); l[len(l)-1].Step != next {
			t.Error(text, next, l)
		}
		drain(t, w)
		wantCells(t, w, 3)
	}
}

// The step in which it ends answers Ran, the next one Ended.
func TestTheLastStep(t *testing.T) {
	w := made(t, wins(1, 1), nil, telling)
	for i, want := range []int{api.Ran, api.Ran, api.Ran, api.Ended, api.Ended} {
		if a := w.Step(1); a != want {
			t.Error(i, a)
		}
	}
	wantTold(t, w, 1, 4)
}

func TestEachStepIsOfItsThread(t *testing.T) {
	w := made(t, wins(2, 2), nil, adding, adding)
	order := []int{1, 1, 2, 1, 2, 2, 2, 1}
	for _, thread := range order {
		goOn(t, w, thread, 1)
	}
	var got []int
	for i, a := range w.Log() {
		if a.Step != i+1 {
			t.Error(i, a)
		}
		got = append(got, a.Thread)
	}
	if !slices.Equal(got, order) {
		t.Error(got)
	}
	if l := w.Events(); len(l) != 1 || l[0].Thread != 1 || l[0].Step != 8 || l[0].Stamp != 1 {
		t.Error(l)
	}
}

// plain is a world laid together by hand.
type plain struct {
	s     *space.Space
	progs []*prog.Prog
}

func newPlain(t *testing.T, s api.Script) *plain {
	t.Helper()
	x, e := space.New(s.Config)
	if e != api.OK || x.Fill(s.Start) != api.OK {
		t.Fatal(e)
	}
	p := &plain{s: x}
	for i, l := range s.Programs {
		one, e := prog.New(x, i+1, l)
		if e != api.OK {
			t.Fatal(e)
		}
		p.progs = append(p.progs, one)
	}
	return p
}

func (p *plain) step(thread int) int {
	if thread < 1 || thread > len(p.progs) {
		return api.None
	}
	one := p.progs[thread-1]
	if one.Done() {
		return api.Ended
	}
	p.s.Turn(thread)
	return one.Step()
}

func (p *plain) look() seen {
	l, _, _ := ghost.Build(p.s.Events())
	x := seen{view: p.s.View(), events: p.s.Events(), stories: l, log: p.s.Log()}
	for _, one := range p.progs {
		slot, gen := one.Slot()
		x.states = append(x.states, one.State())
		x.peers = append(x.peers, api.Peer{Phase: one.Phase(), Slot: slot, Gen: gen, Defers: one.Defers(), Reads: one.Reads(), Writes: one.Writes()})
	}
	return x
}

func TestStepsAgainstAPlainWorld(t *testing.T) {
	rnd := rand.New(rand.NewSource(2402))
	answers := map[int]int{}
	for range 150 {
		s := anyScript(rnd, 5)
		w, p := newWorld(t, s), newPlain(t, s)
		for i, thread := range anyTurns(rnd, len(s.Programs)+1, 50) {
			thread %= len(s.Programs) + 2
			got, want := w.Step(thread), p.step(thread)
			if got != want {
				t.Fatal(thread, got, want)
			}
			answers[got]++
			if i%20 == 0 {
				wantSeen(t, w, p.look())
			}
		}
		wantSeen(t, w, p.look())
	}
	for _, a := range []int{api.None, api.Ran, api.Wait, api.Ended} {
		if answers[a] < 100 {
			t.Error("too little was played", answers)
		}
	}
}

// P24.3

func TestRunAgainstAPlainWorld(t *testing.T) {
	rnd := rand.New(rand.NewSource(2403))
	for range 150 {
		s := anyScript(rnd, 8)
		w, p := newWorld(t, s), newPlain(t, s)
		for range 3 {
			picks, more := anyPicks(rnd, len(s.Programs), rnd.Intn(30)), rnd.Intn(3)*rnd.Intn(100)
			got, e := w.Run(picks, more)
			want, _ := sched.Run(len(s.Programs), p.step, picks, more)
			if e != api.OK || !slices.Equal(got, want) {
				t.Fatal(got, e, "want", want)
			}
		}
		wantSeen(t, w, p.look())
	}
}

func TestRunOfThreadsThatHaveEnded(t *testing.T) {
	w := made(t, wins(1, 1), nil, "halt", forever)
	finish(t, w, 1)
	before := look(t, w)
	marks, e := w.Run([]int{0, 0, 2, -2}, 0)
	if want := []api.Mark{{Pick: 1, Thread: 1, Answer: 4}, {Pick: 2, Thread: 1, Answer: 4}, {Pick: 3, Thread: 1, Answer: 4}, {Pick: 4, Thread: 1, Answer: 4}}; e != api.OK || !slices.Equal(marks, want) {
		t.Error(marks, e)
	}
	wantSeen(t, w, before)
	marks, e = w.Run(nil, 3)
	if want := []api.Mark{{Pick: 1, Thread: 1, Answer: 4}, {Pick: 2, Thread: 2, Answer: 1}, {Pick: 3, Thread: 2, Answer: 1}}; e != api.OK || !slices.Equal(marks, want) {
		t.Error(marks, e)
	}
	// A script's own picks and drain are not a Run's business.
	s := scripted(t, wins(1, 1), nil, telling)
	s.Picks, s.Drain = []int{0}, 9
	w = newWorld(t, s)
	if marks, e := w.Run(nil, 0); len(marks) != 0 || e != api.OK {
		t.Error(marks, e)
	}
}

func TestRunRefuses(t *testing.T) {
	w := made(t, wins(1, 1), nil, adding, adding)
	goOn(t, w, 1, 5)
	before := look(t, w)
	for _, x := range []struct {
		picks, drain int
		e            api.Errno
	}{
		{0, -1, api.ErrArg}, {0, 65537, api.ErrArg}, {0, math.MinInt, api.ErrArg}, {0, math.MaxInt, api.ErrArg},
		{65537, 0, api.ErrMany}, {65537, -1, api.ErrArg},
	} {
		if marks, e := w.Run(make([]int, x.picks), x.drain); len(marks) != 0 || e != x.e {
			t.Error(x, len(marks), e)
		}
	}
	wantSeen(t, w, before)
	if marks, e := w.Run(make([]int, 65536), 65536); e != api.OK || len(marks) < 65536 || len(marks) > 2*65536 {
		t.Error(len(marks), e)
	}
	wantCells(t, w, 6)
}

// P24.4

func TestStateAndPeer(t *testing.T) {
	w := made(t, wins(3, 2), []int64{5}, "push 9\nset 2\nbegin\npush 8\ntell\npush 0\nload\npush 1\nswap\nstore\npush 2\npush 7\nstore\ncommit", forever)
	until(t, w, 1, func() bool { return state(t, w, 1).Place == 13 })
	x, is := w.State(1)
	if want := (api.ProgState{Place: 13, Locals: [8]int64{2: 9}, Held: []int64{8}, Inside: true, Stamp: 3}); !is || !same(x, want) {
		t.Errorf("%+v", x)
	}
	p, is := w.Peer(1)
	if want := (api.Peer{Phase: api.PhaseActive, Gen: 1, Reads: []api.Pair{{Cell: 0, X: 5}}, Writes: []api.Pair{{Cell: 1, X: 5}, {Cell: 2, X: 7}}}); !is || !same(p, want) {
		t.Errorf("%+v", p)
	}
	if x, is := w.State(2); !is || !same(x, api.ProgState{}) {
		t.Errorf("%+v", x)
	}
	if p, is := w.Peer(2); !is || !same(p, api.Peer{}) {
		t.Errorf("%+v", p)
	}
	finish(t, w, 1)
	if x, is := w.State(1); !is || !same(x, api.ProgState{Place: 14, Locals: [8]int64{2: 9}, Told: []int64{8}, Done: true}) {
		t.Errorf("%+v", x)
	}
	for _, thread := range []int{0, 3, -1, 9, math.MinInt, math.MaxInt} {
		if x, is := w.State(thread); is || !same(x, api.ProgState{}) {
			t.Error(thread, x, is)
		}
		if p, is := w.Peer(thread); is || !same(p, api.Peer{}) {
			t.Error(thread, p, is)
		}
	}
}

func TestPeerTellsDefersAndSlots(t *testing.T) {
	c := wins(1, 2)
	c.Tag, c.Defer = api.ReaderBias, 2
	w := made(t, c, []int64{5}, "begin\npush 0\nload\nset 0\na:\njump a", adding)
	until(t, w, 1, func() bool { return state(t, w, 1).Place == 4 })
	finish(t, w, 2)
	if p := peer(t, w, 2); p.Defers != 2 || p.Slot != 1 || p.Gen != 3 || p.Phase != api.PhaseIdle {
		t.Errorf("%+v", p)
	}
	if p := peer(t, w, 1); p.Defers != 0 || p.Slot != 0 || p.Gen != 1 || p.Phase != api.PhaseActive {
		t.Errorf("%+v", p)
	}
}

func TestWhatIsSeenIsNoStep(t *testing.T) {
	rnd := rand.New(rand.NewSource(2404))
	for range 20 {
		s := anyScript(rnd, 4)
		w, silent := newWorld(t, s), newWorld(t, s)
		for _, thread := range anyTurns(rnd, len(s.Programs), 30) {
			look(t, w)
			w.State(0)
			w.Peer(9)
			if a, b := w.Step(thread), silent.Step(thread); a != b {
				t.Fatal(a, b)
			}
		}
		wantSeen(t, w, look(t, silent))
	}
}

func TestViewEventsLogAndStories(t *testing.T) {
	w := made(t, api.Config{Cells: 1, Slots: 1, Bits: 128, Tag: api.CommitWins}, []int64{5}, adding, adding)
	goOn(t, w, 2, 1)
	goOn(t, w, 1, 1)
	if v := w.View(); !same(v.Slots, []api.Slot{{Head: api.Head{Gen: 1, State: api.Held, Thread: 2}}}) {
		t.Error(v)
	}
	l := w.Events()
	if want := (api.Event{Kind: api.EventSlots, Step: 2, Thread: 1, Stamp: 2, E: api.ErrSlots}); !slices.Equal(l, []api.Event{want}) {
		t.Error(l)
	}
	if l := w.Stories(); len(l) != 0 {
		t.Error(l)
	}
	wantLog := []api.Access{
		{Step: 1, Thread: 2, Kind: api.OnHead, Op: api.OpTrade, Ok: true},
		{Step: 2, Thread: 1, Kind: api.OnHead, Op: api.OpTrade},
	}
	if l := w.Log(); !slices.Equal(l, wantLog) {
		t.Error(l)
	}
	goOn(t, w, 2, 3)
	if l := w.Stories(); !same(l, []api.Story{{Thread: 2, Stamp: 1, Begin: 5}}) {
		t.Error(l)
	}
	drain(t, w)
	if l := w.Stories(); len(l) != 2 || l[0].Fate != api.Commits || l[1].Fate != api.Commits || l[0].Thread != 2 || l[1].Stamp != 2 {
		t.Error(l)
	}
}

// P24.6

func TestWhatIsHandedInIsNeitherChangedNorKept(t *testing.T) {
	rnd := rand.New(rand.NewSource(2406))
	for range 50 {
		s := anyScript(rnd, 3)
		s.Picks = []int{1, 2, 3}
		turns := anyTurns(rnd, len(s.Programs), 30)
		w, other := newWorld(t, s), newWorld(t, clone(s))
		before := clone(s)
		for i, thread := range turns {
			if i == len(turns)/2 {
				spoilScript(s)
			}
			w.Step(thread)
			other.Step(thread)
		}
		wantSeen(t, w, look(t, other))
		s = clone(before)
		// Spare room behind all lists, too.
		roomy := clone(s)
		roomy.Start = append(roomy.Start, 77)[:len(s.Start)]
		roomy.Programs = append(roomy.Programs, nil)[:len(s.Programs)]
		roomy.Programs[0] = append(roomy.Programs[0], in(99, 99))[:len(s.Programs[0])]
		picks := []int{0, -1, 5, 66, 67}
		w = newWorld(t, roomy)
		w.Run(picks[:3], 10)
		if !same(roomy, before) || roomy.Start[:len(s.Start)+1][len(s.Start)] != 77 || roomy.Programs[0][:len(s.Programs[0])+1][len(s.Programs[0])] != in(99, 99) || !slices.Equal(picks, []int{0, -1, 5, 66, 67}) {
			t.Fatal(roomy, before, picks)
		}
	}
}

func clone(s api.Script) api.Script {
	s.Start, s.Picks, s.Programs = slices.Clone(s.Start), slices.Clone(s.Picks), slices.Clone(s.Programs)
	for i := range s.Programs {
		s.Programs[i] = slices.Clone(s.Programs[i])
	}
	return s
}

func spoilScript(s api.Script) {
	spoil(s.Start, 99)
	spoil(s.Picks, 99)
	for _, l := range s.Programs {
		spoil(l, in(99, 99))
	}
	spoil(s.Programs, nil)
}

// spoil writes over all of a list, spare room included.
func spoil[T any](l []T, x T) {
	l = l[:cap(l)]
	for i := range l {
		l[i] = x
	}
}

func TestWhatIsAnsweredIsNew(t *testing.T) {
	rnd := rand.New(rand.NewSource(24060))
	for range 30 {
		s := anyScript(rnd, 4)
		w := newWorld(t, s)
		for _, thread := range anyTurns(rnd, len(s.Programs), 30) {
			w.Step(thread)
		}
		before, again := look(t, w), look(t, w)
		spoilSeen(before)
		wantSeen(t, w, again)
		marks, _ := w.Run([]int{0, 0}, 0)
		before = look(t, w)
		spoil(marks, api.Mark{Pick: 9})
		wantSeen(t, w, before)
	}
}

func spoilSeen(x seen) {
	for _, p := range x.peers {
		spoil(p.Reads, api.Pair{Cell: 99})
		spoil(p.Writes, api.Pair{Cell: 98})
	}
	for _, s := range x.states {
		spoil(s.Stack, 97)
		spoil(s.Told, 96)
		spoil(s.Held, 95)
	}
	for _, s := range x.stories {
		spoil(s.Moves, api.Move{Cell: 94})
	}
	spoil(x.view.Cells, 93)
	spoil(x.view.Slots, api.Slot{Words: api.Sig{92}})
	spoil(x.events, api.Event{Kind: 91})
	spoil(x.stories, api.Story{Thread: 90})
	spoil(x.log, api.Access{Step: 89})
}

// No two lists of one answer share memory.
func TestListsOfOneAnswerAreApart(t *testing.T) {
	rnd := rand.New(rand.NewSource(24061))
	for range 30 {
		s := anyScript(rnd, 4)
		w := newWorld(t, s)
		for _, thread := range anyTurns(rnd, len(s.Programs), 30) {
			w.Step(thread)
		}
		for thread := 1; thread <= w.Threads(); thread++ {
			x, want := state(t, w, thread), state(t, w, thread)
			spoil(x.Stack, 99)
			if !same(x.Told, want.Told) || !same(x.Held, want.Held) {
				t.Fatal(x, want)
			}
			spoil(x.Told, 98)
			if !same(x.Held, want.Held) {
				t.Fatal(x, want)
			}
			p, wantPeer := peer(t, w, thread), peer(t, w, thread)
			spoil(p.Reads, api.Pair{})
			if !same(p.Writes, wantPeer.Writes) {
				t.Fatal(p, wantPeer)
			}
		}
		l, want := w.Stories(), w.Stories()
		for i := range l {
			if !same(l[i], want[i]) {
				t.Fatal(l[i], want[i])
			}
			spoil(l[i].Moves, api.Move{Cell: 99})
		}
	}
}

func TestWorldsHaveNothingInCommon(t *testing.T) {
	rnd := rand.New(rand.NewSource(24062))
	for range 30 {
		s, other := anyScript(rnd, 4), anyScript(rnd, 4)
		turns := anyTurns(rnd, len(s.Programs), 30)
		alone := newWorld(t, s)
		for _, thread := range turns {
			alone.Step(thread)
		}
		a, b, twin := newWorld(t, s), newWorld(t, other), newWorld(t, s)
		for _, thread := range turns {
			a.Step(thread)
			b.Step(1 + rnd.Intn(b.Threads()))
			twin.Step(1 + rnd.Intn(twin.Threads()))
		}
		wantSeen(t, a, look(t, alone))
	}
}
