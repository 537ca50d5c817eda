package commit_test

import (
	"math/rand"
	"slices"
	"testing"

	"quash/api"
	"quash/commit"
	"quash/space"
)

// plain is a commit as the chapter tells it: turn is the number of the list there that the next step is of, 8 behind the last one.
type plain struct {
	c       api.Config
	o       commit.Of
	writes  api.Sig
	turn    int
	looks   [][2]int // what is looked at next: a slot, and there its head (0) or a word (1, 2)
	at      api.Victim
	words   api.Sig
	victims []api.Victim
	dooms   []api.Victim
	stores  []api.Pair
	number  int
	won     bool
	e       api.Errno
}

func newPlain(t *testing.T, c api.Config, o commit.Of) *plain {
	t.Helper()
	p := &plain{c: c, o: o, turn: 1, stores: slices.Clone(o.Writes)}
	var cells []int
	for _, w := range o.Writes {
		cells = append(cells, w.Cell)
	}
	p.writes = sigOf(t, c.Bits, cells...)
	for slot := range c.Slots {
		if slot != o.Slot {
			p.looks = append(p.looks, [2]int{slot, 0}, [2]int{slot, 1}, [2]int{slot, 2})
		}
	}
	return p
}

// step plays one step on what threads share, and on how often its judge has deferred; it tells its answer and its access.
func (p *plain) step(v *api.View, defers *int) (int, []api.Access) {
	switch p.turn {
	case 1:
		if v.Gate.Owner != 0 {
			return api.Wait, []api.Access{gateTrade(false)}
		}
		p.number, p.turn = v.Gate.Number+1, 2
		v.Gate = api.Gate{Number: p.number, Owner: p.o.Thread}
		return api.Ran, []api.Access{gateTrade(true)}
	case 2:
		h := v.Slots[p.o.Slot].Head
		if h.State == api.Live && h.Gen == p.o.Gen && !h.Doomed {
			p.judge(defers)
		} else {
			p.turn, p.e = 6, api.ErrDoomed
		}
		return api.Ran, []api.Access{headLook(p.o.Slot)}
	case 3:
		return api.Ran, []api.Access{p.look(v, defers)}
	case 4:
		return api.Ran, []api.Access{p.doomOrStore(v)}
	case 5, 6:
		return p.give(v)
	case 7:
		p.turn = 8
		h := &v.Slots[p.o.Slot].Head
		ok := h.State != api.Free && h.Gen == p.o.Gen
		if ok {
			*h = api.Head{Gen: h.Gen}
		}
		return api.Ran, []api.Access{headTrade(p.o.Slot, ok)}
	}
	return api.Idle, nil
}

// judge waits for the last look.
func (p *plain) judge(defers *int) {
	if len(p.looks) > 0 {
		p.turn = 3
		return
	}
	p.turn, p.dooms = 4, slices.Clone(p.victims)
	switch p.c.Tag {
	case api.ReaderBias:
		if len(p.victims) > p.c.Bias && *defers < p.c.Defer {
			*defers++
			p.turn, p.e = 6, api.ErrDefer
		}
	case api.Aging:
		for _, v := range p.victims {
			if v.Stamp < p.o.Stamp {
				p.turn, p.e = 6, api.ErrYield
			}
		}
	}
}

func (p *plain) look(v *api.View, defers *int) api.Access {
	slot, what := p.looks[0][0], p.looks[0][1]
	p.looks = p.looks[1:]
	one := v.Slots[slot]
	if what == 0 {
		h := one.Head
		p.at = api.Victim{Slot: slot, Gen: h.Gen, Stamp: h.Stamp, Thread: h.Thread}
		if h.State != api.Live || h.Doomed {
			p.looks = p.looks[2:]
		}
		p.judge(defers)
		return headLook(slot)
	}
	p.words[what-1] = one.Words[what-1]
	if what == 2 && meet(p.words, p.writes) {
		p.victims = append(p.victims, p.at)
	}
	p.judge(defers)
	return wordLook(slot, what-1)
}

func (p *plain) doomOrStore(v *api.View) api.Access {
	if len(p.dooms) > 0 {
		d := p.dooms[0]
		p.dooms = p.dooms[1:]
		h := &v.Slots[d.Slot].Head
		ok := h.State == api.Live && h.Gen == d.Gen
		if ok && !h.Doomed {
			h.Doomed, h.By = true, p.o.Thread
		}
		return headTrade(d.Slot, ok)
	}
	w := p.stores[0]
	p.stores = p.stores[1:]
	v.Cells[w.Cell] = w.X
	if len(p.stores) == 0 {
		p.turn = 5
	}
	return store(w.Cell)
}

func (p *plain) give(v *api.View) (int, []api.Access) {
	p.won = p.turn == 5
	p.turn = 7
	ok := v.Gate.Owner == p.o.Thread
	if ok {
		v.Gate = api.Gate{Number: v.Gate.Number + 1}
	}
	if p.e == api.ErrDefer {
		return api.Wait, []api.Access{gateTrade(ok)}
	}
	return api.Ran, []api.Access{gateTrade(ok)}
}

// wantPlain asks a commit all that there is to ask.
func wantPlain(t *testing.T, x *commit.Commit, p *plain) {
	t.Helper()
	want := p.e
	if p.turn < 8 {
		want = api.ErrState
	}
	if x.Done() != (p.turn == 8) || x.End() != want || x.Won() != p.won || x.Number() != p.number {
		t.Error(x.Done(), x.End(), x.Won(), x.Number(), "want", p.turn, want, p.won, p.number)
	}
	wantVictims(t, x, p.victims...)
}

// P13.2, P13.3

// Commits of several threads, in one space, whose slots and words others change; with meddlers also the gate, the cells and the own slots.
func TestMixedCallsAgainstAPlainCommit(t *testing.T) {
	for _, meddlers := range []bool{false, true} {
		rnd := rand.New(rand.NewSource(13))
		ends := map[api.Errno]int{}
		waits, victims := 0, 0
		for range 3000 {
			r := newRun(t, rnd)
			for range 120 {
				switch {
				case rnd.Intn(4) == 0:
					disturb(rnd, r.s, rnd.Intn(r.c.Slots))
				case meddlers && rnd.Intn(6) == 0:
					meddle(rnd, r.s, rnd.Intn(r.c.Slots))
				default:
					if r.step(t, rnd.Intn(len(r.commits))) == api.Wait {
						waits++
					}
				}
			}
			for _, p := range r.plains {
				victims += len(p.victims)
				if p.turn == 8 {
					ends[p.e]++
				}
			}
		}
		for _, e := range []api.Errno{api.OK, api.ErrDoomed, api.ErrYield, api.ErrDefer} {
			if ends[e] < 100 {
				t.Error("too little was played", meddlers, e, ends[e])
			}
		}
		if waits < 1000 || victims < 1000 {
			t.Error("too little was played", meddlers, waits, victims)
		}
	}
}

// run is commits in one space, each beside a plain one.
type run struct {
	c       api.Config
	s       *space.Space
	commits []*commit.Commit
	plains  []*plain
	asked   func(i int) int // how often the judge of a commit has deferred
	defers  []int
}

func newRun(t *testing.T, rnd *rand.Rand) *run {
	t.Helper()
	c := api.Config{
		Cells: 1 + rnd.Intn(20), Slots: 1 + rnd.Intn(5), Bits: 1 + rnd.Intn(128),
		Tag: 1 + rnd.Intn(3), Bias: rnd.Intn(3), Defer: rnd.Intn(4),
	}
	r := &run{c: c, s: newSpace(t, c)}
	for slot := range c.Slots {
		live(r.s, slot, api.Sig{rnd.Uint64() & rnd.Uint64(), rnd.Uint64() & rnd.Uint64()})
	}
	n := 1 + rnd.Intn(3)
	asked := make([]func() int, n)
	for i := range n {
		j := newJudge(t, c)
		asked[i] = j.Defers
		o := commit.Of{Slot: rnd.Intn(c.Slots), Gen: 1, Thread: i + 1, Stamp: 1 + rnd.Intn(20)}
		for _, cell := range rnd.Perm(c.Cells)[:1+rnd.Intn(min(c.Cells, 4))] {
			o.Writes = append(o.Writes, api.Pair{Cell: cell, X: rnd.Int63()})
		}
		r.commits = append(r.commits, newCommit(t, r.s, j, o))
		r.plains = append(r.plains, newPlain(t, c, o))
	}
	r.asked = func(i int) int { return asked[i]() }
	r.defers = make([]int, n)
	return r
}

// step makes a step of one of them, and of its plain one.
func (r *run) step(t *testing.T, i int) int {
	t.Helper()
	x, p := r.commits[i], r.plains[i]
	view, log := r.s.View(), r.s.Log()
	answer, access := p.step(&view, &r.defers[i])
	if a := x.Step(); a != answer {
		t.Error("answer", a, "want", answer)
	}
	wantView(t, r.s, view)
	wantLog(t, r.s, append(log, access...))
	wantPlain(t, x, p)
	if n := r.asked(i); n != r.defers[i] {
		t.Error("defers", n, "want", r.defers[i])
	}
	return answer
}
