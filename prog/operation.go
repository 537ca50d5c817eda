package prog

import "quash/api"

// begun goes the first step of an operation that the tx was asked for, if that has not ended at once; e is what the tx answered.
func (p *Prog) begun(e api.Errno) int {
	switch {
	case e == api.ErrPlace:
		refuse(api.ErrProgCell)
	case e != api.OK:
		refuse(e)
	case p.underWay():
		return p.goOn()
	}
	p.follow()
	return api.Ran
}

// goOn goes one step of the operation that is under way.
func (p *Prog) goOn() int {
	answer := p.tx.Step()
	if !p.underWay() {
		p.follow()
	}
	return answer
}

// follow does what follows from the operation that has ended. The place is still that of the instruction that began it.
func (p *Prog) follow() {
	last := p.tx.Last()
	switch {
	case last.Op == api.OfAbort && last.E == api.ErrProgAbort:
		p.leave(p.list[p.place].A)
	case last.Op == api.OfAbort:
		p.end(last.E)
	case last.E != api.OK:
		p.again()
	default:
		p.went(last)
	}
}

// leave goes out of a transaction that has aborted by its own word.
func (p *Prog) leave(place int) {
	p.frame = p.saved
	p.place = place
	p.transaction = transaction{}
}

// again goes back to the begin. What was saved may be asked for once more.
func (p *Prog) again() {
	p.frame = p.saved.copy()
	p.held = nil
	p.tries++
}

func (p *Prog) went(last api.Last) {
	switch last.Op {
	case api.OfRead:
		p.take()
		p.stack.Push(last.X)
	case api.OfWrite:
		p.two()
	case api.OfCommit:
		p.told = append(p.told, p.held...)
		p.transaction = transaction{}
	}
	p.place++
}
