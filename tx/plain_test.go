package tx_test

import (
	"math/rand"
	"slices"
	"testing"

	"quash/api"
	"quash/commit"
	"quash/policy"
	"quash/read"
	"quash/space"
	"quash/start"
	"quash/tx"
)

// plain is a thread as the chapter tells it, in a space of its own kind, phase by phase.
type plain struct {
	s             *space.Space
	thread, stamp int
	judge         *policy.Judge
	phase         int
	last          api.Last
	begin         *start.Start
	read          *read.Read
	cell          int
	from          read.From
	commit        *commit.Commit
	ends          api.Last // what an abort ends with
	reads, writes []api.Pair
	slot, gen     int
}

func newPlain(s *space.Space, thread int) *plain {
	j, _ := policy.New(s.Config())
	return &plain{s: s, thread: thread, judge: j}
}

func (p *plain) note(e api.Event) {
	e.Thread, e.Stamp = p.thread, p.stamp
	p.s.Note(e)
}

func (p *plain) cellIs(cell int) bool { return cell >= 0 && cell < p.s.Config().Cells }

func (p *plain) written(cell int) int {
	return slices.IndexFunc(p.writes, func(w api.Pair) bool { return w.Cell == cell })
}

func (p *plain) Begin(stamp int) api.Errno {
	switch {
	case p.phase != api.PhaseIdle:
		return api.ErrState
	case stamp < 1:
		return api.ErrArg
	}
	if p.stamp != stamp {
		p.judge.Reset()
	}
	p.phase, p.stamp, p.reads, p.writes = api.PhaseBegin, stamp, nil, nil
	p.begin, _ = start.New(p.s, p.thread, stamp)
	return api.OK
}

func (p *plain) Read(cell int) api.Errno {
	switch {
	case p.phase != api.PhaseActive:
		return api.ErrState
	case !p.cellIs(cell):
		return api.ErrPlace
	}
	if i := p.written(cell); i >= 0 {
		p.last = api.Last{Op: api.OfRead, X: p.writes[i].X}
		p.note(api.Event{Kind: api.EventRead, Cell: cell, X: p.writes[i].X, Own: true})
		return api.OK
	}
	p.phase, p.cell = api.PhaseRead, cell
	p.read, _ = read.New(p.s, p.from, cell)
	return api.OK
}

func (p *plain) Write(cell int, x int64) api.Errno {
	i := p.written(cell)
	switch {
	case p.phase != api.PhaseActive:
		return api.ErrState
	case !p.cellIs(cell):
		return api.ErrPlace
	case i < 0 && len(p.writes) == 16:
		return api.ErrWrites
	case i < 0:
		p.writes = append(p.writes, api.Pair{Cell: cell, X: x})
	default:
		p.writes[i].X = x
	}
	p.last = api.Last{Op: api.OfWrite, X: x}
	p.note(api.Event{Kind: api.EventWrite, Cell: cell, X: x})
	return api.OK
}

func (p *plain) Commit() api.Errno {
	if p.phase != api.PhaseActive {
		return api.ErrState
	}
	p.phase = api.PhaseCommit
	p.commit, _ = commit.New(p.s, p.judge, commit.Of{Slot: p.slot, Gen: p.gen, Thread: p.thread, Stamp: p.stamp, Writes: p.writes})
	return api.OK
}

func (p *plain) Abort(why api.Errno) api.Errno {
	switch {
	case p.phase != api.PhaseActive:
		return api.ErrState
	case why == api.OK:
		return api.ErrArg
	}
	p.phase, p.ends = api.PhaseAbort, api.Last{Op: api.OfAbort, E: why}
	return api.OK
}

func (p *plain) Step() int {
	by := p.s.View().Slots[p.slot].Head.By
	switch p.phase {
	case api.PhaseBegin:
		return p.stepOfBegin()
	case api.PhaseRead:
		return p.stepOfRead()
	case api.PhaseCommit:
		return p.stepOfCommit(by)
	case api.PhaseAbort:
		p.s.Slots().Free(p.slot, p.gen)
		p.phase, p.last = api.PhaseIdle, p.ends
		p.noteAbort(by)
		return api.Ran
	}
	return api.Idle
}

func (p *plain) noteAbort(by int) {
	if p.last.E != api.ErrDoomed {
		by = 0
	}
	p.note(api.Event{Kind: api.EventAbort, E: p.last.E, By: by})
}

func (p *plain) stepOfBegin() int {
	a := p.begin.Step()
	if !p.begin.Done() {
		return a
	}
	gate := p.s.View().Gate.Number
	slot, gen, e := p.begin.Slot()
	p.phase, p.last = api.PhaseIdle, api.Last{Op: api.OfBegin, E: e}
	if e == api.OK {
		p.phase, p.slot, p.gen = api.PhaseActive, slot, gen
		p.from = read.From{Slot: slot, Gen: gen, Seen: 1}
		p.note(api.Event{Kind: api.EventBegin, Gate: gate})
	}
	if e == api.ErrSlots {
		p.note(api.Event{Kind: api.EventSlots, Gate: gate, E: api.ErrSlots})
	}
	return a
}

func (p *plain) stepOfRead() int {
	a := p.read.Step()
	if !p.read.Done() {
		return a
	}
	x, e := p.read.Value()
	if e == api.ErrDoomed {
		p.phase, p.ends = api.PhaseAbort, api.Last{Op: api.OfRead, E: api.ErrDoomed}
		return a
	}
	p.from = p.read.From()
	p.phase, p.last = api.PhaseActive, api.Last{Op: api.OfRead, X: x}
	p.reads = append(p.reads, api.Pair{Cell: p.cell, X: x})
	p.note(api.Event{Kind: api.EventRead, Cell: p.cell, X: x, Gate: p.from.Seen})
	return a
}

func (p *plain) stepOfCommit(by int) int {
	if len(p.writes) == 0 {
		p.s.Slots().Free(p.slot, p.gen)
		p.phase, p.last = api.PhaseIdle, api.Last{Op: api.OfCommit}
		p.note(api.Event{Kind: api.EventCommit, Gate: p.from.Seen})
		return api.Ran
	}
	won := p.commit.Won()
	a := p.commit.Step()
	if won != p.commit.Won() {
		p.note(api.Event{Kind: api.EventCommit, Gate: p.commit.Number()})
	}
	if p.commit.Done() {
		p.phase, p.last = api.PhaseIdle, api.Last{Op: api.OfCommit, E: p.commit.End()}
		if p.last.E != api.OK {
			p.noteAbort(by)
		}
	}
	return a
}

func (p *plain) all() all {
	return all{
		phase: p.phase, last: p.last, reads: p.reads, writes: p.writes, slot: p.slot, gen: p.gen, defers: p.judge.Defers(),
		view: p.s.View(), log: p.s.Log(), events: p.s.Events(),
	}
}

// P14.2 to P14.4

// thread is what a Tx and a plain one have in common.
type thread interface {
	Begin(stamp int) api.Errno
	Read(cell int) api.Errno
	Write(cell int, x int64) api.Errno
	Commit() api.Errno
	Abort(why api.Errno) api.Errno
	Step() int
}

// Threads in one space, each beside a plain one in another; calls at right and at wrong moments; with meddlers also the gate, the cells and the slots change.
func TestMixedCallsAgainstAPlainThread(t *testing.T) {
	for _, meddlers := range []bool{false, true} {
		rnd := rand.New(rand.NewSource(14))
		kinds, ends := map[int]int{}, map[api.Last]int{}
		for range 1200 {
			c := api.Config{
				Cells: 1 + rnd.Intn(20), Slots: 1 + rnd.Intn(3), Bits: 1 + rnd.Intn(128),
				Tag: 1 + rnd.Intn(3), Bias: rnd.Intn(2), Defer: rnd.Intn(3),
			}
			r := newRun(t, c, 1+rnd.Intn(3))
			for range 150 {
				if meddlers && rnd.Intn(15) == 0 {
					do := meddle(rnd, c)
					do(r.one)
					do(r.other)
					continue
				}
				i := rnd.Intn(len(r.txs))
				r.both(t, i, action(rnd, c, r.plains[i].phase))
				ends[api.Last{Op: r.plains[i].last.Op, E: r.plains[i].last.E}]++
			}
			for _, e := range r.one.Events() {
				kinds[e.Kind]++
			}
		}
		for kind := api.EventBegin; kind <= api.EventSlots; kind++ {
			if kinds[kind] < 300 {
				t.Error("too little was played", meddlers, kind, kinds[kind])
			}
		}
		for _, l := range []api.Last{{Op: api.OfRead, E: api.ErrDoomed}, {Op: api.OfCommit, E: api.ErrDoomed}, {Op: api.OfCommit, E: api.ErrDefer}, {Op: api.OfCommit, E: api.ErrYield}, {Op: api.OfBegin, E: api.ErrSlots}, {Op: api.OfAbort, E: api.ErrDoomed}} {
			if ends[l] < 20 {
				t.Error("too little was played", meddlers, l, ends[l])
			}
		}
		if meddlers && ends[api.Last{Op: api.OfBegin, E: api.ErrState}] < 20 {
			t.Error("too little was played", ends)
		}
	}
}

// run is threads in one space, each beside a plain one in the other.
type run struct {
	one, other *space.Space
	txs        []*tx.Tx
	plains     []*plain
}

func newRun(t *testing.T, c api.Config, n int) *run {
	t.Helper()
	r := &run{one: newSpace(t, c), other: newSpace(t, c)}
	for i := range n {
		r.txs = append(r.txs, newTx(t, r.one, i+1))
		r.plains = append(r.plains, newPlain(r.other, i+1))
	}
	return r
}

func (r *run) both(t *testing.T, i int, do func(x thread) int) {
	t.Helper()
	r.one.Turn(i + 1)
	r.other.Turn(i + 1)
	if a, b := do(r.txs[i]), do(r.plains[i]); a != b {
		t.Error("answer", a, "want", b)
	}
	wantAll(t, r.one, r.txs[i], r.plains[i].all())
	if t.Failed() {
		t.FailNow()
	}
}

// action is a step or a call; calls that fit to the phase come more often.
func action(rnd *rand.Rand, c api.Config, phase int) func(x thread) int {
	stamp, cell, v := rnd.Intn(6), rnd.Intn(c.Cells+2)-1, rnd.Int63()
	what := rnd.Intn(30)
	if phase == api.PhaseIdle && what > 6 {
		what = 0
	}
	if phase == api.PhaseActive && what > 5 {
		what = 1 + what%3
	}
	switch what {
	case 0:
		return func(x thread) int { return int(x.Begin(stamp)) }
	case 1:
		return func(x thread) int { return int(x.Read(cell)) }
	case 2:
		return func(x thread) int { return int(x.Write(cell, v)) }
	case 3:
		return func(x thread) int { return int(x.Commit()) }
	case 4:
		why := []api.Errno{api.OK, api.ErrMany, api.ErrDoomed, api.ErrYield}[stamp%4]
		return func(x thread) int { return int(x.Abort(why)) }
	}
	return func(x thread) int { return x.Step() }
}

// meddle is what nobody may do, but what threads are to live through.
func meddle(rnd *rand.Rand, c api.Config) func(s *space.Space) {
	slot, cell, by, v := rnd.Intn(c.Slots), rnd.Intn(c.Cells), 1+rnd.Intn(8), rnd.Uint64()
	genOf := func(s *space.Space) int { return s.Slots().Now()[slot].Head.Gen }
	switch rnd.Intn(9) {
	case 0:
		return func(s *space.Space) { s.Gate().Give(s.Gate().Now().Owner) }
	case 1:
		return func(s *space.Space) { s.Gate().Take(by) }
	case 2:
		return func(s *space.Space) { s.Store(cell, int64(v)) }
	case 3:
		return func(s *space.Space) { s.Slots().Put(slot, int(v%2), v) }
	case 4, 5:
		return func(s *space.Space) { s.Slots().Doom(slot, genOf(s), by) }
	case 6:
		return func(s *space.Space) { s.Slots().Free(slot, genOf(s)) }
	case 7:
		return func(s *space.Space) { s.Slots().Claim(slot, by) }
	}
	return func(s *space.Space) { s.Slots().Ready(slot, genOf(s), by) }
}
