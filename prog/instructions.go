package prog

import "quash/api"

// row is how many values an instruction pops and pushes, and what it does with its operand; that tells the step's answer.
type row struct {
	pops, pushes int
	do           func(p *Prog, a int) int
}

// table has the row of each Op in the place of its number. Behind its look at the stack no instruction finds too few values there, or too little room.
func table() []row {
	return []row{
		api.DoPush:   {0, 1, (*Prog).push},
		api.DoPop:    {1, 0, (*Prog).pop},
		api.DoDup:    {1, 2, (*Prog).dup},
		api.DoSwap:   {2, 2, (*Prog).swap},
		api.DoGet:    {0, 1, (*Prog).get},
		api.DoSet:    {1, 0, (*Prog).set},
		api.DoAdd:    {2, 1, (*Prog).add},
		api.DoSub:    {2, 1, (*Prog).sub},
		api.DoMul:    {2, 1, (*Prog).mul},
		api.DoMod:    {2, 1, (*Prog).mod},
		api.DoLess:   {2, 1, (*Prog).less},
		api.DoSame:   {2, 1, (*Prog).same},
		api.DoNot:    {1, 1, (*Prog).not},
		api.DoJump:   {0, 0, (*Prog).jump},
		api.DoZero:   {1, 0, (*Prog).zero},
		api.DoBegin:  {0, 0, (*Prog).begin},
		api.DoLoad:   {1, 1, (*Prog).load},
		api.DoStore:  {2, 0, (*Prog).store},
		api.DoCommit: {0, 0, (*Prog).commit},
		api.DoAbort:  {0, 0, (*Prog).abort},
		api.DoTell:   {1, 0, (*Prog).tell},
		api.DoHalt:   {0, 0, (*Prog).halt},
	}
}

func (p *Prog) next() int {
	p.place++
	return api.Ran
}

func (p *Prog) lay(x int64) int {
	p.stack.Push(x)
	return p.next()
}

func (p *Prog) take() int64 {
	x, _ := p.stack.Pop()
	return x
}

// two takes two values.
func (p *Prog) two() (lower, upper int64) {
	upper = p.take()
	return p.take(), upper
}

// below is the value that lies below k others.
func (p *Prog) below(k int) int64 {
	x, _ := p.stack.Peek(k)
	return x
}

func (p *Prog) push(a int) int { return p.lay(int64(a)) }

func (p *Prog) pop(int) int {
	p.take()
	return p.next()
}

func (p *Prog) dup(int) int { return p.lay(p.below(0)) }

func (p *Prog) swap(int) int {
	p.stack.Swap()
	return p.next()
}

func (p *Prog) get(a int) int { return p.lay(p.locals[a]) }

func (p *Prog) set(a int) int {
	p.locals[a] = p.take()
	return p.next()
}

func (p *Prog) add(int) int {
	lower, upper := p.two()
	return p.lay(lower + upper)
}

func (p *Prog) sub(int) int {
	lower, upper := p.two()
	return p.lay(lower - upper)
}

func (p *Prog) mul(int) int {
	lower, upper := p.two()
	return p.lay(lower * upper)
}

func (p *Prog) mod(int) int {
	lower, upper := p.two()
	return p.lay(modulo(lower, upper))
}

// modulo is never below 0, as Go's own is where lower is.
func modulo(lower, upper int64) int64 {
	if upper < 1 {
		return 0
	}
	left := lower % upper
	if left < 0 {
		left += upper
	}
	return left
}

func (p *Prog) less(int) int {
	lower, upper := p.two()
	return p.lay(truth(lower < upper))
}

func (p *Prog) same(int) int {
	lower, upper := p.two()
	return p.lay(truth(lower == upper))
}

func (p *Prog) not(int) int { return p.lay(truth(p.take() == 0)) }

func truth(holds bool) int64 {
	if holds {
		return 1
	}
	return 0
}

func (p *Prog) jump(a int) int {
	p.place = a
	return api.Ran
}

func (p *Prog) zero(a int) int {
	if p.take() == 0 {
		return p.jump(a)
	}
	return p.next()
}

func (p *Prog) tell(int) int {
	x := p.take()
	if p.inside() {
		p.held = append(p.held, x)
	} else {
		p.told = append(p.told, x)
	}
	return p.next()
}

// halt leaves the place as it is, as the end does: nothing is behind it.
func (p *Prog) halt(int) int {
	if p.inside() {
		refuse(api.ErrProgOpen)
	}
	p.end(api.OK)
	return api.Ran
}

func (p *Prog) begin(int) int {
	if p.inside() {
		refuse(api.ErrProgTwice)
	}
	// A further attempt is of the transaction that was begun before: it keeps its stamp and what was saved.
	if p.stamp == 0 {
		p.transaction = transaction{stamp: p.space.Step(), saved: p.frame.copy()}
	}
	return p.begun(p.tx.Begin(p.stamp))
}

func (p *Prog) load(int) int {
	p.mustBeInside()
	return p.begun(p.tx.Read(int(p.below(0))))
}

func (p *Prog) store(int) int {
	p.mustBeInside()
	return p.begun(p.tx.Write(int(p.below(1)), p.below(0)))
}

func (p *Prog) commit(int) int {
	p.mustBeInside()
	return p.begun(p.tx.Commit())
}

func (p *Prog) abort(int) int {
	p.mustBeInside()
	return p.begun(p.tx.Abort(api.ErrProgAbort))
}

func (p *Prog) mustBeInside() {
	if !p.inside() {
		refuse(api.ErrProgNone)
	}
}
