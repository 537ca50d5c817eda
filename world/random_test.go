package world_test

import (
	"math"
	"math/rand"
	"strconv"
	"strings"

	"quash/api"
	"quash/code"
)

func oneOf[T any](rnd *rand.Rand, l ...T) T { return l[rnd.Intn(len(l))] }

// anyConfig is one of the three policies, with few bits now and then, and not always a slot for everybody.
func anyConfig(rnd *rand.Rand, cells, threads int) api.Config {
	c := api.Config{Cells: cells, Slots: 1 + rnd.Intn(threads), Bits: oneOf(rnd, 1, 8, 64, 128), Tag: api.CommitWins + rnd.Intn(3)}
	if c.Tag == api.ReaderBias {
		c.Bias, c.Defer = rnd.Intn(2), rnd.Intn(4)
	}
	return c
}

// anyStart has values for no more cells than there are.
func anyStart(rnd *rand.Rand, cells int) []int64 {
	l := make([]int64, rnd.Intn(cells+1))
	for i := range l {
		l[i] = int64(rnd.Intn(20) - 5)
	}
	return l
}

// maker writes a program, piece by piece. Each piece leaves as many values on the stack as it found.
type maker struct {
	rnd    *rand.Rand
	cells  int
	b      strings.Builder
	labels int
}

func (m *maker) say(lines ...string) {
	for _, line := range lines {
		m.b.WriteString(line + "\n")
	}
}

func (m *maker) label() string {
	m.labels++
	return "l" + strconv.Itoa(m.labels)
}

// value lays any value on the stack.
func (m *maker) value() {
	if m.rnd.Intn(4) == 0 {
		m.say("get " + strconv.Itoa(m.rnd.Intn(7)))
		return
	}
	m.say("push " + strconv.Itoa(oneOf(m.rnd, 0, 1, 2, 7, -1, -5, math.MinInt, math.MaxInt)))
}

// cell lays a cell's number on the stack, now and then one that another cell names.
func (m *maker) cell() {
	m.say("push " + strconv.Itoa(m.rnd.Intn(min(m.cells, 4))))
	if m.rnd.Intn(6) == 0 {
		m.say("load", "push "+strconv.Itoa(m.cells), "mod")
	}
}

// perhaps goes by the pieces at times, as the value says that is there then.
func (m *maker) perhaps(pieces func()) {
	over := m.label()
	m.value()
	m.say("push 2", "mod", "zero "+over)
	pieces()
	m.say(over + ":")
}

func (m *maker) inside(deep int) {
	switch n := m.rnd.Intn(14); {
	case n < 4:
		m.cell()
		m.say("load", oneOf(m.rnd, "tell", "set 3", "pop"))
	case n < 6:
		m.cell()
		m.value()
		m.say("store")
	case n < 9:
		m.cell()
		m.say("dup", "load", "push 3", "add", "store")
	case n < 10:
		m.value()
		m.say(oneOf(m.rnd, "tell", "set 2"))
	case n < 11:
		for cell := range min(m.cells, oneOf(m.rnd, 2, 2, 16, 17)) {
			m.say("push "+strconv.Itoa(cell), "push 9", "store")
		}
	case deep < 2:
		m.perhaps(func() { m.inside(deep + 1) })
	}
}

func (m *maker) transaction() {
	out := m.label()
	m.say("begin")
	for range m.rnd.Intn(5) {
		m.inside(0)
	}
	if m.rnd.Intn(4) == 0 {
		m.perhaps(func() { m.say("abort " + out) })
	}
	m.say(oneOf(m.rnd, "commit", "commit", "commit", "abort "+out), out+":")
}

func (m *maker) outside(deep int) {
	switch n := m.rnd.Intn(10); {
	case n < 7:
		m.transaction()
	case n < 8:
		m.value()
		m.say(oneOf(m.rnd, "tell", "set 1"))
	case n < 9 && deep < 1:
		round, out := m.label(), m.label()
		m.say("push "+strconv.Itoa(1+m.rnd.Intn(3)), "set 7", round+":")
		m.outside(deep + 1)
		m.say("get 7", "push 1", "sub", "set 7", "get 7", "zero "+out, "jump "+round, out+":")
	default:
		m.perhaps(func() { m.say("halt") })
	}
}

// madeProgram is one that goes wrong by a cell or its writes at most.
func madeProgram(rnd *rand.Rand, cells int) []api.Instr {
	m := &maker{rnd: rnd, cells: cells}
	for range 1 + rnd.Intn(4) {
		m.outside(0)
	}
	l, _, e := code.Parse(m.b.String())
	if e != api.OK { // it came out too long
		return madeProgram(rnd, cells)
	}
	return l
}

// wildProgram is one of which some instructions are any, so that it may go wrong by everything, or have no end.
func wildProgram(rnd *rand.Rand, cells int) []api.Instr {
	l := madeProgram(rnd, cells)
	for range 1 + rnd.Intn(2) {
		l[rnd.Intn(len(l))] = anyInstr(rnd, len(l))
	}
	return l
}

func anyInstr(rnd *rand.Rand, end int) api.Instr {
	op := api.Op(1 + rnd.Intn(22))
	switch code.Takes(op) {
	case api.TakesNumber:
		return in(op, rnd.Intn(8)-2)
	case api.TakesLocal:
		return in(op, rnd.Intn(8))
	case api.TakesPlace:
		return in(op, rnd.Intn(end+1))
	}
	return in(op, 0)
}

// anyScript is a script that may be, of so many threads at most, without picks.
func anyScript(rnd *rand.Rand, most int) api.Script {
	cells, threads := oneOf(rnd, 1, 2, 3, 4, 20), 1+rnd.Intn(most)
	s := api.Script{Config: anyConfig(rnd, cells, threads), Start: anyStart(rnd, cells)}
	for range threads {
		l := madeProgram(rnd, cells)
		if rnd.Intn(4) == 0 {
			l = wildProgram(rnd, cells)
		}
		s.Programs = append(s.Programs, l)
	}
	return s
}

// anyTurns say whose step comes when; some go on for a while, so that others rest at every place.
func anyTurns(rnd *rand.Rand, threads, bursts int) []int {
	var l []int
	for range bursts {
		thread := 1 + rnd.Intn(threads)
		for range 1 + rnd.Intn(8)*rnd.Intn(4) {
			l = append(l, thread)
		}
	}
	return l
}

// anyPicks are such as a Run takes, beyond the threads' numbers too.
func anyPicks(rnd *rand.Rand, threads, bursts int) []int {
	l := anyTurns(rnd, threads, bursts)
	for i := range l {
		l[i] += -1 + threads*(rnd.Intn(5)-2)
	}
	return l
}
