package commit_test

import (
	"math/rand"
	"slices"
	"testing"

	"quash/api"
	"quash/commit"
	"quash/read"
	"quash/space"
)

// P13.5

func TestMostIsWithinTheBoundOfTheWhole(t *testing.T) {
	const bound = api.MaxLive*(api.SigWords+2) + api.MaxWrites + api.GateSlack
	for n := 1; n <= 8; n++ {
		for writes := 0; writes <= 16; writes++ {
			if m := commit.Most(wins(n), writes); m < 3 || m > bound {
				t.Error(n, writes, m)
			}
		}
	}
}

// Others change slots and words between the steps as they like.
func TestWhateverOthersDoToSlots(t *testing.T) {
	rnd := rand.New(rand.NewSource(5))
	ends := map[api.Errno]int{}
	for range 6000 {
		c := api.Config{
			Cells: 20, Slots: 1 + rnd.Intn(8), Bits: 1 + rnd.Intn(128),
			Tag: 1 + rnd.Intn(3), Bias: rnd.Intn(3), Defer: rnd.Intn(3),
		}
		s, j := newSpace(t, c), newJudge(t, c)
		for slot := range c.Slots {
			live(s, slot, api.Sig{rnd.Uint64() & rnd.Uint64(), rnd.Uint64() & rnd.Uint64()})
		}
		own, writes := rnd.Intn(c.Slots), pairs(1+rnd.Intn(16))
		x := newCommit(t, s, j, ofSlot(own, writes...))
		steps, doomed := 0, false
		var made []api.Access
		for ; steps < mostSteps && !x.Done(); steps++ {
			for range rnd.Intn(3) {
				// The own slot stays what it is behind Own, as where threads keep to their slots.
				if slot := rnd.Intn(c.Slots); slot != own || steps < 2 {
					disturb(rnd, s, slot)
				}
			}
			if h := s.Slots().Now()[own].Head; steps == 1 {
				doomed = h.State != api.Live || h.Gen != 1 || h.Doomed
			}
			x.Step()
			log := s.Log()
			made = append(made, log[len(log)-1])
		}
		ends[x.End()]++
		wantAsItEnded(t, x, c, own, made, writes)
		if doomed != (x.End() == api.ErrDoomed) || c.Tag == api.CommitWins && !doomed && !x.Won() {
			t.Error(doomed, x.End(), x.Won())
		}
		if steps-1 > commit.Most(c, len(writes)) {
			t.Error(steps, commit.Most(c, len(writes)))
		}
	}
	for _, e := range []api.Errno{api.OK, api.ErrDoomed, api.ErrYield, api.ErrDefer} {
		if ends[e] < 100 {
			t.Error("too little was played", e, ends[e])
		}
	}
}

// wantAsItEnded asks whether the accesses that a commit made fit to its end: who wins stores all, once; who does not stores nothing and dooms nobody.
func wantAsItEnded(t *testing.T, x *commit.Commit, c api.Config, own int, made []api.Access, writes []api.Pair) {
	t.Helper()
	if x.Won() != (x.End() == api.OK) {
		t.Error(x.Won(), x.End())
	}
	stores, dooms, gates := 0, 0, 0
	for _, a := range made {
		switch {
		case a.Kind == api.OnCell:
			stores++
		case a.Kind == api.OnGate:
			gates++
		case a.Kind == api.OnHead && a.Op == api.OpTrade && a.At != own:
			dooms++
		}
	}
	wantStores, wantDooms := 0, 0
	if x.Won() {
		wantStores, wantDooms = len(writes), len(x.Victims())
	}
	if stores != wantStores || dooms != wantDooms || gates != 2 {
		t.Error(c, x.End(), "stores", stores, wantStores, "dooms", dooms, wantDooms, "gate", gates)
	}
}

// P13.6

func TestBehindACommitThatHasWon(t *testing.T) {
	rnd := rand.New(rand.NewSource(6))
	won := 0
	for range 3000 {
		c := api.Config{Cells: 1 + rnd.Intn(256), Slots: 1 + rnd.Intn(8), Bits: 1 + rnd.Intn(128), Tag: 1 + rnd.Intn(3), Bias: rnd.Intn(9), Defer: rnd.Intn(2)}
		s, j := newSpace(t, c), newJudge(t, c)
		for slot := range c.Slots {
			live(s, slot, api.Sig{rnd.Uint64() & rnd.Uint64() & rnd.Uint64(), 0})
		}
		own := rnd.Intn(c.Slots)
		o := ofSlot(own)
		for _, cell := range rnd.Perm(c.Cells)[:1+rnd.Intn(min(c.Cells, 16))] {
			o.Writes = append(o.Writes, api.Pair{Cell: cell, X: rnd.Int63() - rnd.Int63()})
		}
		gate := 2 * rnd.Intn(4)
		for range gate / 2 {
			s.Gate().Take(8)
			s.Gate().Give(8)
		}
		cells := s.View().Cells
		x := newCommit(t, s, j, o)
		for range mostSteps {
			x.Step()
			if slot := rnd.Intn(c.Slots); slot != own && rnd.Intn(3) == 0 {
				disturb(rnd, s, slot)
			}
		}
		if x.Won() {
			won++
			for _, w := range o.Writes {
				cells[w.Cell] = w.X
			}
		}
		v := s.View()
		if !slices.Equal(v.Cells, cells) || v.Gate != (api.Gate{Number: gate + 2}) || x.Number() != gate+1 || v.Slots[own].Head != (api.Head{Gen: 1}) {
			t.Error(o, x.End(), v, cells)
		}
	}
	if won < 1000 {
		t.Error("too little was played", won)
	}
}

// Two that commit at one time go one behind the other, in every schedule: the cells hold what the one of the greater number wrote, also where both write.
func TestEveryScheduleOfTwoCommits(t *testing.T) {
	lasts, waits := [2]int{}, 0
	for _, order := range orders([]int{9, 9}) {
		c := wins(2)
		s := newLiving(t, c, api.Sig{})
		x := []*commit.Commit{
			newCommit(t, s, newJudge(t, c), ofSlot(0, api.Pair{Cell: 0, X: 1}, api.Pair{Cell: 1, X: 1})),
			newCommit(t, s, newJudge(t, c), ofSlot(1, api.Pair{Cell: 1, X: 2}, api.Pair{Cell: 2, X: 2})),
		}
		for _, i := range order {
			held := s.Gate().Now().Owner
			if a := x[i].Step(); a == api.Wait {
				waits++
				if held == 0 || held == i+1 {
					t.Fatal(order, "waits, the gate being", held)
				}
			}
		}
		finish(t, x[0])
		finish(t, x[1])
		if x[0].End() != api.OK || x[1].End() != api.OK || x[0].Number()+x[1].Number() != 4 {
			t.Fatal(order, x[0].End(), x[1].End(), x[0].Number(), x[1].Number())
		}
		last := 1
		if x[1].Number() == 3 {
			last = 2
		}
		lasts[last-1]++
		if v := s.View(); !slices.Equal(v.Cells[:3], []int64{1, int64(last), 2}) || v.Gate != (api.Gate{Number: 4}) {
			t.Fatal(order, v)
		}
	}
	if lasts[0] == 0 || lasts[1] == 0 || waits == 0 {
		t.Error("too little was played", lasts, waits)
	}
}

// A reader of two cells, both of which a commit writes: where nobody holds the gate, what it has read is what the cells hold, or it is doomed.
func TestEveryScheduleOfACommitAndAReader(t *testing.T) {
	doomed, ended := 0, 0
	for _, order := range orders([]int{9, 9}) {
		c := wins(2)
		s := newLiving(t, c, api.Sig{})
		x := newCommit(t, s, newJudge(t, c), ofSlot(0, api.Pair{Cell: 0, X: 1}, api.Pair{Cell: 1, X: 2}))
		r := &reader{from: read.From{Slot: 1, Gen: 1, Seen: 1}, cells: []int{1, 0}}
		for at, i := range order {
			if i == 0 {
				x.Step()
			} else {
				r.step(s)
			}
			wantReadsHold(t, s, r, order[:at+1])
		}
		for range 20 {
			r.step(s)
			x.Step()
			wantReadsHold(t, s, r, order)
		}
		// Under CommitWins nobody keeps a commit from its end.
		if x.End() != api.OK {
			t.Fatal(order, x.End())
		}
		if h := s.Slots().Now()[1].Head; h.Doomed {
			doomed++
			if h.By != 1 || len(x.Victims()) != 1 {
				t.Fatal(order, h, x.Victims())
			}
		}
		if len(r.done) == 2 {
			ended++
		}
	}
	if doomed == 0 || ended == 0 {
		t.Error("too little was played", doomed, ended)
	}
}

// Two that have read what they write: whoever takes the gate first dooms the other one, or that one has not published its read yet, and sees the new value.
func TestEveryScheduleOfTwoThatReadAndWrite(t *testing.T) {
	counts := map[api.Errno]int{}
	for _, order := range orders([]int{8, 8}) {
		c := api.Config{Cells: 1, Slots: 2, Bits: 1, Tag: api.CommitWins}
		s := newLiving(t, c, api.Sig{})
		s.Fill([]int64{10})
		adders := []*adder{newAdder(0), newAdder(1)}
		for _, i := range order {
			adders[i].step(t, s)
		}
		for range 30 {
			adders[0].step(t, s)
			adders[1].step(t, s)
		}
		sum := int64(10)
		for _, a := range adders {
			if !a.ended {
				t.Fatal(order, "not ended")
			}
			counts[a.e]++
			if a.e == api.OK {
				sum += 3
			}
		}
		if v := s.View(); v.Cells[0] != sum || v.Gate.Owner != 0 || sum == 10 {
			t.Fatal(order, v, sum)
		}
	}
	if counts[api.OK] == 0 || counts[api.ErrDoomed] == 0 {
		t.Error("too little was played", counts)
	}
}

func TestSpacesOfCommitsHaveNothingInCommon(t *testing.T) {
	c, d := wins(2), config(3, api.ReaderBias, 0, 2)
	one, other := newLiving(t, c, all()), newLiving(t, d, all())
	x := newCommit(t, one, newJudge(t, c), ofSlot(0, pairs(1)...))
	y := newCommit(t, other, newJudge(t, d), ofSlot(0, pairs(1)...))
	goOn(t, x, 3)
	goOn(t, y, 8)
	view := one.View()
	y.Step()
	y.Step()
	wantEnd(t, other, y, api.ErrDefer)
	wantView(t, one, view)
	goOn(t, x, 6)
	wantEnd(t, one, x, api.OK)
}

// Help

// reader is an attempt that lives, and reads cells, one behind the other, till it is doomed.
type reader struct {
	from  read.From
	cells []int
	x     *read.Read
	done  []api.Pair
	e     api.Errno
}

// step answers false, when there is nothing more to read.
func (r *reader) step(s *space.Space) bool {
	if r.x == nil {
		if len(r.cells) == 0 {
			return false
		}
		r.x, _ = read.New(s, r.from, r.cells[0])
	}
	r.x.Step()
	if !r.x.Done() {
		return true
	}
	v, e := r.x.Value()
	if e != api.OK {
		r.e, r.x, r.cells = e, nil, nil
		return false
	}
	r.done = append(r.done, api.Pair{Cell: r.cells[0], X: v})
	r.from, r.x, r.cells = r.x.From(), nil, r.cells[1:]
	return len(r.cells) > 0
}

func wantReadsHold(t *testing.T, s *space.Space, r *reader, order []int) {
	t.Helper()
	v := s.View()
	if v.Gate.Owner != 0 || v.Slots[r.from.Slot].Head.Doomed {
		return
	}
	for _, p := range r.done {
		if v.Cells[p.Cell] != p.X {
			t.Fatal(order, "read", p, "cells", v.Cells)
		}
	}
}

// adder is an attempt that lives, reads cell 0, and commits 3 more there.
type adder struct {
	slot   int
	reader *reader
	commit *commit.Commit
	ended  bool
	e      api.Errno
}

func newAdder(slot int) *adder {
	return &adder{slot: slot, reader: &reader{from: read.From{Slot: slot, Gen: 1, Seen: 1}, cells: []int{0}}}
}

func (a *adder) step(t *testing.T, s *space.Space) {
	t.Helper()
	switch {
	case a.ended:
	case a.commit != nil:
		a.commit.Step()
		a.ended, a.e = a.commit.Done(), a.commit.End()
	case !a.reader.step(s) && a.reader.e != api.OK:
		a.ended, a.e = true, a.reader.e
		s.Slots().Free(a.slot, 1)
	case len(a.reader.done) == 1:
		o := ofSlot(a.slot, api.Pair{Cell: 0, X: a.reader.done[0].X + 3})
		a.commit = newCommit(t, s, newJudge(t, s.Config()), o)
	}
}
