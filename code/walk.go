package code

import "quash/api"

const (
	depths = api.MaxDepth + 1      // from 0 on
	states = depths * (depths + 1) // each depth outside, and with each base
)

// state is what is said of a program at a place: how many values its stack has, whether it is inside a transaction, and how many it had at that one's begin.
type state struct {
	depth  int
	inside bool
	base   int
}

// number tells states apart: those outside come first, then those of base 0, of base 1, and so on.
func (s state) number() int {
	if !s.inside {
		return s.depth
	}
	return depths*(1+s.base) + s.depth
}

// spot is a place, and one of the states that it has.
type spot struct {
	place int
	state state
}

// walk goes through all states that come to the places of a program. Places that have two of them are gone on from, too: what is amiss further on may be so in one of them alone.
type walk struct {
	rows  []row
	list  []api.Instr
	seen  []bool // by places, and the numbers of their states
	todo  []spot
	count []int       // of the states of each place
	wrong []api.Errno // in them, by places
}

// Verify looks whether a program can go wrong by its stack or its transactions.
func Verify(l []api.Instr) (api.Errno, int) {
	rows := table()
	if e, at := check(rows, l); e != api.OK {
		return e, at
	}
	w := newWalk(rows, l)
	w.come(0, state{})
	for len(w.todo) > 0 {
		last := len(w.todo) - 1
		next := w.todo[last]
		w.todo = w.todo[:last]
		w.leave(next)
	}
	return w.least()
}

// newWalk is one that has been nowhere. The end has a halt, since it asks and leads to just what a halt does.
func newWalk(rows []row, l []api.Instr) *walk {
	list := make([]api.Instr, 0, len(l)+1)
	list = append(list, l...)
	list = append(list, api.Instr{Op: api.DoHalt})
	return &walk{
		rows:  rows,
		list:  list,
		seen:  make([]bool, len(list)*states),
		count: make([]int, len(list)),
		wrong: make([]api.Errno, len(list)),
	}
}

// come gives a place a state, if it has it not yet.
func (w *walk) come(place int, s state) {
	at := place*states + s.number()
	if w.seen[at] {
		return
	}
	w.seen[at] = true
	w.count[place]++
	w.todo = append(w.todo, spot{place, s})
}

// leave notes what is amiss there, or comes to what follows.
func (w *walk) leave(at spot) {
	in := w.list[at.place]
	r := w.rows[in.Op]
	if e := amiss(r, at.state); e != api.OK {
		w.note(at.place, e)
		return
	}
	next := behind(in.Op, r, at.state)
	switch in.Op {
	case api.DoHalt:
	case api.DoJump, api.DoAbort:
		w.come(in.A, next)
	case api.DoZero:
		w.come(at.place+1, next)
		w.come(in.A, next)
	default:
		w.come(at.place+1, next)
	}
}

func (w *walk) note(place int, e api.Errno) {
	// Whichever state came first: the depth is told ahead of the transaction.
	if w.wrong[place] != api.ErrCodeDepth {
		w.wrong[place] = e
	}
}

// least is the least place at which something is amiss, and what.
func (w *walk) least() (api.Errno, int) {
	end := len(w.list) - 1
	for place, e := range w.wrong {
		if e != api.OK {
			return e, place
		}
		if place < end && w.count[place] > 1 {
			return api.ErrCodeMeet, place
		}
	}
	return api.OK, 0
}

// amiss is what is so of an instruction in a state.
func amiss(r row, s state) api.Errno {
	if s.depth < r.pops || s.depth-r.pops+r.pushes > api.MaxDepth {
		return api.ErrCodeDepth
	}
	if s.inside && r.where == outside || !s.inside && r.where == inside {
		return api.ErrCodeTx
	}
	return api.OK
}

// behind is the state that an instruction leaves.
func behind(op api.Op, r row, s state) state {
	s.depth += r.pushes - r.pops
	switch op {
	case api.DoBegin:
		return state{depth: s.depth, inside: true, base: s.depth}
	case api.DoCommit:
		return state{depth: s.depth}
	case api.DoAbort:
		return state{depth: s.base}
	}
	return s
}
