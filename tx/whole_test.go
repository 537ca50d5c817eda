package tx_test

import (
	"math/rand"
	"slices"
	"testing"

	"quash/api"
	"quash/space"
	"quash/tx"
)

// P14.5

func TestWhateverThreadsDo(t *testing.T) {
	rnd := rand.New(rand.NewSource(145))
	counts := map[string]int{}
	for range 1500 {
		c := api.Config{
			Cells: 1 + rnd.Intn(20), Slots: 1 + rnd.Intn(4), Bits: []int{1, 8, 64, 128}[rnd.Intn(4)],
			Tag: 1 + rnd.Intn(3), Bias: rnd.Intn(2), Defer: rnd.Intn(3),
		}
		w := newWatch(t, c, 1+rnd.Intn(5))
		clients := make([]*chance, len(w.threads))
		for i := range clients {
			clients[i] = &chance{rnd: rnd, thread: i}
		}
		for range 60 {
			// Some go on for a while, so that others rest at every place.
			i := rnd.Intn(len(clients))
			for range 1 + rnd.Intn(8)*rnd.Intn(4) {
				clients[i].turn(t, w)
			}
		}
		for what, n := range w.counts {
			counts[what] += n
		}
	}
	for _, what := range []string{"wait", "doom", "begin", "slots", "read", "commit", "leave", "abort", "doomed", "defer", "yield"} {
		if counts[what] < 200 {
			t.Error("too little was played", what, counts[what])
		}
	}
}

// chance does transactions of any kind.
type chance struct {
	rnd    *rand.Rand
	thread int
	stamp  int
	stamps int
}

func (c *chance) turn(t *testing.T, w *watch) {
	t.Helper()
	x := w.threads[c.thread].x
	if x.Phase() == api.PhaseIdle {
		if l := x.Last(); l.E == api.OK || l.Op == api.OfAbort {
			c.stamps++
			c.stamp = c.stamps*10 + c.rnd.Intn(10)
		}
		w.begin(t, c.thread, c.stamp)
	}
	for range 5 {
		if x.Phase() == api.PhaseActive {
			c.order(t, w, x)
		}
	}
	w.step(t, c.thread)
}

func (c *chance) order(t *testing.T, w *watch, x *tx.Tx) {
	t.Helper()
	cell := c.rnd.Intn(min(w.c.Cells, 1+c.rnd.Intn(20)))
	switch n := c.rnd.Intn(20); {
	case n < 10:
		w.read(t, c.thread, cell)
	case n < 16:
		if x.Write(cell, c.rnd.Int63()) == api.ErrWrites {
			w.abort(t, c.thread, api.ErrWrites)
		}
	case n < 19:
		wantOK(t, x.Commit())
	default:
		w.abort(t, c.thread, api.ErrProgAbort)
	}
}

// adder adds 3 to cell 0, in one transaction, and begins anew, till it has committed.
type adder struct {
	thread, stamp int
	ends          []api.Errno
	done          bool
}

func (a *adder) turn(t *testing.T, w *watch) {
	t.Helper()
	if a.done {
		return
	}
	x := w.threads[a.thread].x
	if x.Phase() == api.PhaseIdle {
		w.begin(t, a.thread, a.stamp)
	}
	if x.Phase() == api.PhaseActive {
		if l := x.Last(); l.Op == api.OfBegin {
			w.read(t, a.thread, 0)
		} else {
			wantOK(t, x.Write(0, l.X+3))
			wantOK(t, x.Commit())
		}
	}
	w.step(t, a.thread)
	if x.Phase() == api.PhaseIdle {
		a.ends = append(a.ends, x.Last().E)
		a.done = x.Last() == api.Last{Op: api.OfCommit}
	}
}

func adders(t *testing.T, w *watch) []*adder {
	t.Helper()
	w.s.Fill([]int64{5})
	w.cells[0] = 5
	w.states[0] = slices.Clone(w.cells)
	var l []*adder
	for i := range w.threads {
		l = append(l, &adder{thread: i, stamp: i + 1})
	}
	return l
}

func wantAdded(t *testing.T, w *watch, l []*adder, ends map[api.Errno]int) {
	t.Helper()
	open := func(a *adder) bool { return !a.done }
	for range 2000 {
		if !slices.ContainsFunc(l, open) {
			break
		}
		for _, a := range l {
			a.turn(t, w)
		}
	}
	for _, a := range l {
		if !a.done {
			t.Fatal("not done", a)
		}
		for _, e := range a.ends {
			ends[e]++
		}
	}
	v, n := w.s.View(), len(l)
	if v.Cells[0] != int64(5+3*n) || v.Gate.Number%2 != 0 || v.Gate.Number < 2*n || v.Gate.Owner != 0 {
		t.Fatal(v)
	}
}

// The whole's example 1, each one's steps parted by the other's in up to three places.
func TestTwoAddersWithFewSwitches(t *testing.T) {
	for _, tag := range []int{api.CommitWins, api.ReaderBias, api.Aging} {
		ends := map[api.Errno]int{}
		for first := range 20 {
			for second := range 20 {
				for third := range 20 {
					w := newWatch(t, api.Config{Cells: 1, Slots: 2, Bits: 128, Tag: tag, Defer: 2}, 2)
					l := adders(t, w)
					for i, n := range []int{first, second, third, 40} {
						for range n {
							l[i%2].turn(t, w)
						}
					}
					wantAdded(t, w, l, ends)
				}
			}
		}
		if ends[api.ErrDoomed] == 0 || tag == api.ReaderBias && ends[api.ErrDefer] == 0 || tag == api.Aging && ends[api.ErrYield] == 0 {
			t.Error("too little was played", tag, ends)
		}
	}
}

// Every schedule of so many steps, from where both live.
func TestEveryScheduleOfTwoAdders(t *testing.T) {
	ends := map[api.Errno]int{}
	for _, order := range orders([]int{7, 7}) {
		w := newWatch(t, api.Config{Cells: 1, Slots: 2, Bits: 1, Tag: api.CommitWins}, 2)
		l := adders(t, w)
		for i, n := range []int{6, 6} {
			for range n {
				l[i].turn(t, w)
			}
		}
		for _, i := range order {
			l[i].turn(t, w)
		}
		wantAdded(t, w, l, ends)
	}
	if ends[api.ErrDoomed] == 0 {
		t.Error("too little was played", ends)
	}
}

func TestManyAdders(t *testing.T) {
	rnd := rand.New(rand.NewSource(3))
	ends := map[api.Errno]int{}
	for range 200 {
		c := api.Config{Cells: 1, Slots: 1 + rnd.Intn(8), Bits: 1 + rnd.Intn(128), Tag: 1 + rnd.Intn(3), Bias: rnd.Intn(3), Defer: rnd.Intn(4)}
		w := newWatch(t, c, 1+rnd.Intn(8))
		l := adders(t, w)
		for range 3000 {
			l[rnd.Intn(len(l))].turn(t, w)
		}
		wantAdded(t, w, l, ends)
	}
	for _, e := range []api.Errno{api.OK, api.ErrDoomed, api.ErrSlots, api.ErrDefer, api.ErrYield} {
		if ends[e] < 30 {
			t.Error("too little was played", ends)
		}
	}
}

// The whole's examples, as far as they speak of threads

func TestReadersDisturbNobody(t *testing.T) {
	rnd := rand.New(rand.NewSource(2))
	for range 300 {
		w := newWatch(t, wins(2), 2)
		w.begin(t, 0, 1)
		w.begin(t, 1, 2)
		for range 60 {
			i := rnd.Intn(2)
			x := w.threads[i].x
			if x.Phase() == api.PhaseActive {
				if n := len(x.Reads()); n < 2 {
					w.read(t, i, n)
				} else {
					wantOK(t, x.Commit())
				}
			}
			w.step(t, i)
		}
		for _, one := range w.threads {
			wantLast(t, one.x, api.OfCommit, api.OK, 0)
		}
		if w.counts["wait"] != 0 || w.s.Gate().Now() != (api.Gate{}) {
			t.Fatal(w.counts, w.s.Gate().Now())
		}
	}
}

func TestOneSlotForTwo(t *testing.T) {
	s := newSpace(t, wins(1))
	x, y := begun(t, s, 1, 1), newTx(t, s, 2)
	for range 3 {
		wantOK(t, y.Begin(2))
		goOn(t, s, 2, y, 1)
		wantLast(t, y, api.OfBegin, api.ErrSlots, 0)
		wantPhase(t, y, api.PhaseIdle)
	}
	commitOf(t, s, 1, x)
	beginOf(t, s, 2, 2, y)
	wantSlot(t, y, 0, 2)
}

func TestWhoIsDoomedByBits(t *testing.T) {
	for bits, want := range map[int]api.Errno{1: api.ErrDoomed, 128: api.OK} {
		c := wins(2)
		c.Bits = bits
		s := newSpace(t, c)
		x := begun(t, s, 1, 1)
		readOf(t, s, 1, 1, x)
		write(t, s, 2, 0)
		readOf(t, s, 1, 1, x)
		if l := x.Last(); l.Op != api.OfRead || l.E != want {
			t.Error(bits, l)
		}
	}
}

func TestAReaderThatRests(t *testing.T) {
	s := newSpace(t, wins(2))
	x := begun(t, s, 1, 1)
	wantOK(t, x.Read(0))
	wantSteps(t, s, 1, x, ran(put(0, 0), put(0, 1), load(0))...)
	write(t, s, 2, 0)
	wantSteps(t, s, 1, x, ran(gateLook(), load(0), gateLook(), headLook(0))...)
	wantPhase(t, x, api.PhaseAbort)
	wantSteps(t, s, 1, x, ran(headTrade(0, true))...)
	wantLast(t, x, api.OfRead, api.ErrDoomed, 0)
	l := s.Events()
	if e := l[len(l)-1]; e.Kind != api.EventAbort || e.By != 2 {
		t.Error(e)
	}
}

// It was not Live when the committer looked at its head, and publishes and looks at the gate for the first time behind it.
func TestAReaderThatComesLate(t *testing.T) {
	s := newSpace(t, wins(2))
	y := begun(t, s, 2, 2)
	wantOK(t, y.Write(0, 50))
	wantOK(t, y.Commit())
	x := newTx(t, s, 1)
	wantOK(t, x.Begin(1))
	goOn(t, s, 1, x, 4)
	goOn(t, s, 2, y, 3)
	goOn(t, s, 1, x, 1)
	wantOK(t, x.Read(0))
	goOn(t, s, 1, x, 3)
	finish(t, s, 2, y)
	wantLast(t, y, api.OfCommit, api.OK, 0)
	finish(t, s, 1, x)
	wantLast(t, x, api.OfRead, api.OK, 50)
}

func TestADoomedReaderCommits(t *testing.T) {
	s := newSpace(t, wins(2))
	x := begun(t, s, 1, 1)
	readOf(t, s, 1, 0, x)
	readOf(t, s, 1, 1, x)
	write(t, s, 2, 0, 1)
	if h := s.Slots().Now()[0].Head; !h.Doomed {
		t.Error(h)
	}
	commitOf(t, s, 1, x)
	wantLast(t, x, api.OfCommit, api.OK, 0)
	wantReads(t, x, api.Pair{Cell: 0, X: 1000}, api.Pair{Cell: 1, X: 1001})
}

func TestAnAttemptOfSeventeenWrites(t *testing.T) {
	s := newSpace(t, wins(1))
	x := begun(t, s, 1, 1)
	for cell := range 16 {
		wantOK(t, x.Write(cell, 1))
	}
	if e := x.Write(16, 1); e != api.ErrWrites {
		t.Error(e)
	}
	cells := s.View().Cells
	wantOK(t, x.Abort(api.ErrWrites))
	finish(t, s, 1, x)
	if !slices.Equal(s.View().Cells, cells) || s.Gate().Now() != (api.Gate{}) {
		t.Error(s.View())
	}
}

func TestSpacesOfThreadsHaveNothingInCommon(t *testing.T) {
	one, other := newSpace(t, wins(2)), newSpace(t, config(2, api.Aging, 0, 0))
	x, y := begun(t, one, 1, 1), begun(t, other, 1, 2)
	readOf(t, one, 1, 0, x)
	before := allOf(one, x)
	wantOK(t, y.Write(0, 3))
	commitOf(t, other, 1, y)
	wantLast(t, y, api.OfCommit, api.OK, 0)
	wantAll(t, one, x, before)
}

// R4: the same calls have the same answers.
func TestPlayedAgainItIsTheSame(t *testing.T) {
	play := func() *space.Space {
		rnd := rand.New(rand.NewSource(8))
		w := newWatch(t, config(2, api.ReaderBias, 0, 1), 3)
		for range 600 {
			i := rnd.Intn(3)
			c := chance{rnd: rnd, thread: i, stamp: i + 1}
			c.turn(t, w)
		}
		return w.s
	}
	a, b := play(), play()
	wantView(t, a, b.View())
	wantLog(t, a, b.Log())
	wantEvents(t, a, 0, b.Events()...)
}
