package prog_test

import (
	"math/rand"
	"slices"
	"testing"

	"quash/api"
	"quash/prog"
	"quash/space"
	"quash/tx"
)

// plain is a program as the chapter tells it, in a space of its own kind: what is wrong is asked for first, and then one switch does what is said.
type plain struct {
	s     *space.Space
	x     *tx.Tx
	l     []api.Instr
	state api.ProgState
	saved api.ProgState
	fails api.Errno // why it aborts, if an instruction was refused
}

func newPlain(s *space.Space, thread int, l []api.Instr) *plain {
	x, _ := tx.New(s, thread)
	return &plain{s: s, x: x, l: l}
}

func (p *plain) now() api.Instr {
	if p.state.Place == len(p.l) {
		return api.Instr{Op: api.DoHalt}
	}
	return p.l[p.state.Place]
}

func (p *plain) resting() bool {
	return p.x.Phase() == api.PhaseIdle || p.x.Phase() == api.PhaseActive
}

func (p *plain) step() int {
	if p.state.Done {
		return api.Ended
	}
	if !p.resting() {
		return p.operate()
	}
	if e := p.wrong(); e != api.OK {
		p.fails = e
		if !p.state.Inside {
			p.finish()
			return api.Ran
		}
		p.x.Abort(e)
		return p.operate()
	}
	if !p.ask() {
		p.plainly()
		return api.Ran
	}
	if p.resting() {
		p.ended()
		return api.Ran
	}
	return p.operate()
}

func (p *plain) operate() int {
	a := p.x.Step()
	if p.resting() {
		p.ended()
	}
	return a
}

// wrong is the error by which the next instruction is refused.
func (p *plain) wrong() api.Errno {
	op, n := p.now().Op, len(p.state.Stack)
	pops := []int{0, 0, 1, 1, 2, 0, 1, 2, 2, 2, 2, 2, 2, 1, 0, 1, 0, 1, 2, 0, 0, 1, 0}[op]
	grows := op == api.DoPush || op == api.DoGet || op == api.DoDup
	if n < pops || n == 32 && grows {
		return api.ErrProgStack
	}
	switch op {
	case api.DoBegin:
		if p.state.Inside {
			return api.ErrProgTwice
		}
	case api.DoHalt:
		if p.state.Inside {
			return api.ErrProgOpen
		}
	case api.DoLoad, api.DoStore, api.DoCommit, api.DoAbort:
		if !p.state.Inside {
			return api.ErrProgNone
		}
	}
	if op != api.DoLoad && op != api.DoStore {
		return api.OK
	}
	cell := p.state.Stack[n-pops]
	if cell < 0 || cell >= int64(p.s.Config().Cells) {
		return api.ErrProgCell
	}
	writes := p.x.Writes()
	if op == api.DoStore && len(writes) == 16 && !slices.ContainsFunc(writes, func(w api.Pair) bool { return int64(w.Cell) == cell }) {
		return api.ErrWrites
	}
	return api.OK
}

// ask asks the tx for what the instruction wants, if it is anything.
func (p *plain) ask() bool {
	l := p.state.Stack
	switch p.now().Op {
	case api.DoBegin:
		if p.state.Stamp == 0 {
			p.saved = p.state
			p.saved.Stack = slices.Clone(l)
			p.state.Stamp = p.s.Step()
		}
		p.x.Begin(p.state.Stamp)
	case api.DoLoad:
		p.x.Read(int(l[len(l)-1]))
	case api.DoStore:
		p.x.Write(int(l[len(l)-2]), l[len(l)-1])
	case api.DoCommit:
		p.x.Commit()
	case api.DoAbort:
		p.x.Abort(api.ErrProgAbort)
	default:
		return false
	}
	return true
}

// plainly does an instruction that asks nothing of the tx.
func (p *plain) plainly() {
	x, in := &p.state, p.now()
	n := len(x.Stack)
	x.Place++
	top := func(k int) int64 { return x.Stack[n-1-k] }
	set := func(pops int, l ...int64) { x.Stack = slices.Concat(x.Stack[:n-pops], l) }
	switch in.Op {
	case api.DoPush:
		set(0, int64(in.A))
	case api.DoPop:
		set(1)
	case api.DoDup:
		set(0, top(0))
	case api.DoSwap:
		set(2, top(0), top(1))
	case api.DoGet:
		set(0, x.Locals[in.A])
	case api.DoSet:
		x.Locals[in.A] = top(0)
		set(1)
	case api.DoAdd:
		set(2, top(1)+top(0))
	case api.DoSub:
		set(2, top(1)-top(0))
	case api.DoMul:
		set(2, top(1)*top(0))
	case api.DoMod:
		set(2, plainMod(top(1), top(0)))
	case api.DoLess:
		set(2, number(top(1) < top(0)))
	case api.DoSame:
		set(2, number(top(1) == top(0)))
	case api.DoNot:
		set(1, number(top(0) == 0))
	case api.DoJump:
		x.Place = in.A
	case api.DoZero:
		if top(0) == 0 {
			x.Place = in.A
		}
		set(1)
	case api.DoTell:
		if x.Inside {
			x.Held = append(x.Held, top(0))
		} else {
			x.Told = append(x.Told, top(0))
		}
		set(1)
	case api.DoHalt:
		x.Place--
		p.finish()
	}
}

func (p *plain) finish() {
	x := &p.state
	x.Held, x.Inside, x.Stamp, x.Tries, x.Done, x.E = nil, false, 0, 0, true, p.fails
}

// back is how it stood at the begin, but for what it has told.
func (p *plain) back() {
	x := &p.state
	x.Place, x.Stack, x.Locals, x.Held, x.Inside = p.saved.Place, slices.Clone(p.saved.Stack), p.saved.Locals, nil, false
}

func (p *plain) ended() {
	x, last, a := &p.state, p.x.Last(), p.now().A
	n := len(x.Stack)
	switch {
	case p.fails != api.OK:
		p.finish()
	case last.Op == api.OfAbort:
		p.back()
		x.Place, x.Stamp, x.Tries = a, 0, 0
	case last.E != api.OK:
		p.back()
		x.Tries++
	case last.Op == api.OfBegin:
		x.Inside = true
		x.Place++
	case last.Op == api.OfRead:
		x.Stack = append(x.Stack[:n-1:n-1], last.X)
		x.Place++
	case last.Op == api.OfWrite:
		x.Stack = x.Stack[:n-2]
		x.Place++
	case last.Op == api.OfCommit:
		x.Told = append(x.Told, x.Held...)
		x.Held, x.Inside, x.Stamp, x.Tries = nil, false, 0, 0
		x.Place++
	}
}

func (p *plain) all() all {
	a := all{
		state: p.state, phase: p.x.Phase(), reads: p.x.Reads(), writes: p.x.Writes(), defers: p.x.Defers(),
		view: p.s.View(), log: p.s.Log(), events: p.s.Events(), steps: p.s.Step(),
	}
	a.slot, a.gen = p.x.Slot()
	return a
}

// P16.2 to P16.5

// Programs in one space, each beside a plain one in another.
func TestProgramsAgainstPlainOnes(t *testing.T) {
	rnd := rand.New(rand.NewSource(16))
	ends, events := map[api.Errno]int{}, map[api.Event]int{}
	for range 2500 {
		c := anyConfig(rnd)
		one, other := newSpace(t, c), newSpace(t, c)
		var progs []*prog.Prog
		var plains []*plain
		for i := range 1 + rnd.Intn(5) {
			l := anyProgram(rnd, c.Cells)
			p, e := prog.New(one, i+1, l)
			if e != api.OK {
				t.Fatal(e)
			}
			progs, plains = append(progs, p), append(plains, newPlain(other, i+1, l))
		}
		for _, i := range anyTurns(rnd, len(progs), 40) {
			one.Turn(i + 1)
			other.Turn(i + 1)
			if a, b := progs[i].Step(), plains[i].step(); a != b {
				t.Fatal("answer", a, "want", b)
			}
			wantAll(t, one, progs[i], plains[i].all())
			if t.Failed() {
				t.FailNow()
			}
		}
		for _, p := range plains {
			if p.state.Done {
				ends[p.state.E]++
			}
		}
		for _, e := range other.Events() {
			events[api.Event{Kind: e.Kind, E: e.E}]++
		}
	}
	for _, e := range []api.Errno{api.OK, api.ErrProgStack, api.ErrProgTwice, api.ErrProgNone, api.ErrProgCell, api.ErrProgOpen, api.ErrWrites} {
		if ends[e] < 30 {
			t.Error("too little was played", e, ends[e])
		}
	}
	for _, e := range []api.Errno{api.ErrDoomed, api.ErrYield, api.ErrDefer, api.ErrProgAbort} {
		if n := events[api.Event{Kind: api.EventAbort, E: e}]; n < 30 {
			t.Error("too little was played", e, n)
		}
	}
	if n := events[api.Event{Kind: api.EventSlots, E: api.ErrSlots}]; n < 300 || events[api.Event{Kind: api.EventCommit}] < 300 {
		t.Error("too little was played", events)
	}
}
