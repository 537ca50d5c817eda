package tx

import (
	"quash/api"
	"quash/commit"
	"quash/read"
	"quash/start"
)

// doing is what is under way. Its step tells the answer, and what is under way behind it.
type doing interface {
	phase() int
	step(t *Tx) (int, doing)
}

// resting: there is no attempt.
type resting struct{}

func (resting) phase() int { return api.PhaseIdle }

func (r resting) step(*Tx) (int, doing) { return api.Idle, r }

// active: there is an attempt, and no operation of it.
type active struct{}

func (active) phase() int { return api.PhaseActive }

func (a active) step(*Tx) (int, doing) { return api.Idle, a }

type beginning struct {
	start *start.Start
}

func (beginning) phase() int { return api.PhaseBegin }

func (b beginning) step(t *Tx) (int, doing) {
	answer := b.start.Step()
	if !b.start.Done() {
		return answer, b
	}
	slot, gen, e := b.start.Slot()
	t.last = api.Last{Op: api.OfBegin, E: e}
	switch e {
	case api.OK:
		t.from = read.From{Slot: slot, Gen: gen, Seen: noneSeen}
		t.tell(api.Event{Kind: api.EventBegin, Gate: t.gateNow()})
		return answer, active{}
	case api.ErrSlots:
		t.tell(api.Event{Kind: api.EventSlots, Gate: t.gateNow(), E: e})
	}
	return answer, resting{}
}

type reading struct {
	read *read.Read
	cell int
}

func (reading) phase() int { return api.PhaseRead }

func (r reading) step(t *Tx) (int, doing) {
	answer := r.read.Step()
	if !r.read.Done() {
		return answer, r
	}
	x, e := r.read.Value()
	if e != api.OK {
		// The read has not ended before its attempt has.
		return answer, aborting{api.Last{Op: api.OfRead, E: e}}
	}
	t.from = r.read.From()
	t.reads = append(t.reads, api.Pair{Cell: r.cell, X: x})
	t.last = api.Last{Op: api.OfRead, X: x}
	t.tell(api.Event{Kind: api.EventRead, Cell: r.cell, X: x, Gate: t.from.Seen})
	return answer, active{}
}

// leaving is the commit of an attempt that has written nothing: what it has read is of one state, so that nobody is asked.
type leaving struct{}

func (leaving) phase() int { return api.PhaseCommit }

func (leaving) step(t *Tx) (int, doing) {
	t.free()
	t.last = api.Last{Op: api.OfCommit}
	t.tell(api.Event{Kind: api.EventCommit, Gate: t.from.Seen})
	return api.Ran, resting{}
}

type committing struct {
	commit *commit.Commit
}

func (committing) phase() int { return api.PhaseCommit }

func (c committing) step(t *Tx) (int, doing) {
	by, won := t.doomer(), c.commit.Won()
	answer := c.commit.Step()
	if c.commit.Won() && !won {
		t.tell(api.Event{Kind: api.EventCommit, Gate: c.commit.Number()})
	}
	if !c.commit.Done() {
		return answer, c
	}
	t.last = api.Last{Op: api.OfCommit, E: c.commit.End()}
	if t.last.E != api.OK {
		t.tellAbort(t.last.E, by)
	}
	return answer, resting{}
}

// aborting has what ends with its attempt.
type aborting struct {
	last api.Last
}

func (aborting) phase() int { return api.PhaseAbort }

func (a aborting) step(t *Tx) (int, doing) {
	by := t.doomer()
	t.free()
	t.last = a.last
	t.tellAbort(a.last.E, by)
	return api.Ran, resting{}
}

func (t *Tx) free() { t.space.Slots().Free(t.from.Slot, t.from.Gen) }

// doomer is asked ahead of a step that may free the slot: behind it nobody knows any more.
func (t *Tx) doomer() int { return t.space.Slots().Now()[t.from.Slot].Head.By }

func (t *Tx) gateNow() int { return t.space.Gate().Now().Number }

func (t *Tx) tellAbort(e api.Errno, by int) {
	if e != api.ErrDoomed {
		by = 0
	}
	t.tell(api.Event{Kind: api.EventAbort, E: e, By: by})
}
