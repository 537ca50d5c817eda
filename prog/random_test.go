package prog_test

import (
	"math"
	"math/rand"
	"strconv"
	"strings"

	"quash/api"
	"quash/code"
)

// maker writes a program, piece by piece. Each piece leaves as many values on the stack as it found.
type maker struct {
	rnd    *rand.Rand
	cells  int
	b      strings.Builder
	labels int
}

func (m *maker) say(l ...string) {
	for _, line := range l {
		m.b.WriteString(line + "\n")
	}
}

func (m *maker) label() string {
	m.labels++
	return "l" + strconv.Itoa(m.labels)
}

func (m *maker) number() string {
	l := []int{0, 1, 2, 3, -1, -5, 7, 100, math.MinInt, math.MaxInt}
	return strconv.Itoa(l[m.rnd.Intn(len(l))])
}

// local is one that no loop counts by.
func (m *maker) local() string { return strconv.Itoa(m.rnd.Intn(7)) }

// cell lays a cell's number on the stack.
func (m *maker) cell() {
	switch m.rnd.Intn(8) {
	case 0:
		m.say("get "+m.local(), "push "+strconv.Itoa(m.cells), "mod")
	case 1:
		m.say("push "+strconv.Itoa(m.rnd.Intn(m.cells)), "load", "push "+strconv.Itoa(m.cells), "mod")
	default:
		m.say("push " + strconv.Itoa(m.rnd.Intn(min(m.cells, 3))))
	}
}

// value lays any value on the stack.
func (m *maker) value() {
	switch m.rnd.Intn(5) {
	case 0:
		m.say("get " + m.local())
	case 1:
		m.say("push "+m.number(), "get "+m.local(), []string{"add", "sub", "mul", "mod", "less", "same"}[m.rnd.Intn(6)])
	case 2:
		m.say("push "+m.number(), []string{"not", "dup\nswap\nsub", "dup\nmul", "dup\npop"}[m.rnd.Intn(4)])
	default:
		m.say("push " + m.number())
	}
}

// skip goes by the pieces at times.
func (m *maker) skip(pieces func()) {
	over := m.label()
	m.value()
	m.say("push 2", "mod", "zero "+over)
	pieces()
	m.say(over + ":")
}

func (m *maker) inside(deep int) {
	switch n := m.rnd.Intn(12); {
	case n < 3:
		m.cell()
		m.say("load", []string{"tell", "set " + m.local(), "pop"}[m.rnd.Intn(3)])
	case n < 5:
		m.cell()
		m.value()
		m.say("store")
	case n < 7:
		m.cell()
		m.say("dup", "load", "push 3", "add", "store")
	case n < 9:
		m.value()
		m.say([]string{"tell", "set " + m.local()}[m.rnd.Intn(2)])
	case n < 10:
		for cell := range min(m.cells, []int{0, 3, 16, 20}[m.rnd.Intn(4)]) {
			m.say("push "+strconv.Itoa(cell), "push "+m.number(), "store")
		}
	case deep < 2:
		m.skip(func() { m.inside(deep + 1) })
	}
}

func (m *maker) transaction() {
	out := m.label()
	m.say("begin")
	for range m.rnd.Intn(5) {
		m.inside(0)
	}
	if m.rnd.Intn(3) == 0 {
		m.skip(func() { m.say("abort " + out) })
	}
	m.say([]string{"commit", "commit", "abort " + out}[m.rnd.Intn(3)], out+":")
}

func (m *maker) outside(deep int) {
	switch n := m.rnd.Intn(10); {
	case n < 6:
		m.transaction()
	case n < 8:
		m.value()
		m.say([]string{"tell", "set " + m.local()}[m.rnd.Intn(2)])
	case n < 9 && deep < 1:
		round, out := m.label(), m.label()
		m.say("push "+strconv.Itoa(1+m.rnd.Intn(3)), "set 7", round+":")
		m.outside(deep + 1)
		m.say("get 7", "push 1", "sub", "set 7", "get 7", "zero "+out, "jump "+round, out+":")
	default:
		m.skip(func() { m.say([]string{"halt", "push 4\ntell"}[m.rnd.Intn(2)]) })
	}
}

// madeProgram is one whose transactions and stack are in order.
func madeProgram(rnd *rand.Rand, cells int) []api.Instr {
	m := &maker{rnd: rnd, cells: cells}
	for range rnd.Intn(4) {
		m.say("push " + m.number())
	}
	for range 1 + rnd.Intn(4) {
		m.outside(0)
	}
	m.say("get 0", "pop")
	l, _, e := code.Parse(m.b.String())
	if e != api.OK {
		return madeProgram(rnd, cells)
	}
	return l
}

// anyProgram is one or the other.
func anyProgram(rnd *rand.Rand, cells int) []api.Instr {
	if rnd.Intn(2) == 0 {
		return madeProgram(rnd, cells)
	}
	return wildProgram(rnd, cells)
}

// wildProgram is one of which some instructions are any.
func wildProgram(rnd *rand.Rand, cells int) []api.Instr {
	l := madeProgram(rnd, cells)
	for range rnd.Intn(3) {
		l[rnd.Intn(len(l))] = anyInstr(rnd, len(l))
	}
	if rnd.Intn(20) == 0 {
		for i := range l {
			l[i] = anyInstr(rnd, len(l))
		}
	}
	return l
}

func anyInstr(rnd *rand.Rand, end int) api.Instr {
	op := api.Op(1 + rnd.Intn(22))
	switch code.Takes(op) {
	case api.TakesNumber:
		return api.Instr{Op: op, A: rnd.Intn(8) - 2}
	case api.TakesLocal:
		return api.Instr{Op: op, A: rnd.Intn(8)}
	case api.TakesPlace:
		return api.Instr{Op: op, A: rnd.Intn(end + 1)}
	}
	return api.Instr{Op: op}
}

func anyConfig(rnd *rand.Rand) api.Config {
	return api.Config{
		Cells: []int{1 + rnd.Intn(20), 1 + rnd.Intn(4), 20}[rnd.Intn(3)], Slots: 1 + rnd.Intn(4), Bits: []int{1, 8, 64, 128}[rnd.Intn(4)],
		Tag: 1 + rnd.Intn(3), Bias: rnd.Intn(2) * rnd.Intn(2), Defer: rnd.Intn(3),
	}
}

// anyTurns say whose step comes when; some go on for a while, so that others rest at every place.
func anyTurns(rnd *rand.Rand, threads, bursts int) []int {
	var l []int
	for range bursts {
		i := rnd.Intn(threads)
		for range 1 + rnd.Intn(8)*rnd.Intn(4) {
			l = append(l, i)
		}
	}
	return l
}
