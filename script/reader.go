package script

import (
	"math"
	"slices"
	"strings"

	"quash/api"
	"quash/code"
	"quash/space"
)

// The parts of a script, in the order in which they stand in it.
const (
	theConfig = iota
	theStarts
	theThreads
	thePicks
	theDrain
	theEnd
)

// reader reads a text line by line.
type reader struct {
	asks       map[string]func() // by a line's first field
	structures map[string]structure
	line       int      // the number of that which is read
	rest       []string // its fields behind the first one
	part       int      // what is read at present
	thread     int      // the line of the thread whose end is to come; 0: there is none
	body       []string // that thread's lines
	s          api.Script
}

func newReader() *reader {
	r := &reader{structures: structures()}
	r.asks = map[string]func(){
		"config": r.config,
		"start":  r.start,
		"thread": r.begin,
		"end":    r.end,
		"picks":  r.picks,
		"drain":  r.drain,
	}
	return r
}

// take reads a line.
func (r *reader) take(line int, raw string) {
	fields := fieldsOf(raw)
	if r.thread > 0 && !isEnd(fields) {
		// Kept as it stands: a program is read when its end has come, and remarks count for how long its text is.
		r.body = append(r.body, raw)
		return
	}
	if len(fields) == 0 {
		return
	}
	ask, known := r.asks[fields[0]]
	if !known {
		giveUp(line, api.ErrScriptLine)
	}
	r.line, r.rest = line, fields[1:]
	ask()
}

// isEnd asks for the whole line: one that only begins with that word is a line of the program, as any other.
func isEnd(fields []string) bool { return len(fields) == 1 && fields[0] == "end" }

// isDeed asks for the first field alone: a deed that is none as a whole is told as such, not as code.
func isDeed(fields []string) bool { return len(fields) > 0 && fields[0] == "do" }

// goTo goes on to a part, or stays there; there is no way back, and none past the config.
func (r *reader) goTo(part int) {
	if part < r.part || r.part == theConfig && part != theConfig {
		giveUp(r.line, api.ErrScriptLine)
	}
	r.part = part
}

// numbers are the fields behind the first one; there have to be least to most of them.
func (r *reader) numbers(least, most int) []int {
	if len(r.rest) < least || len(r.rest) > most {
		giveUp(r.line, api.ErrScriptLine)
	}
	return numbersOf(r.line, r.rest)
}

func (r *reader) config() {
	r.goTo(theConfig)
	n := r.numbers(6, 6)
	c := api.Config{Cells: n[0], Slots: n[1], Bits: n[2], Tag: n[3], Bias: n[4], Defer: n[5]}
	if e := space.Check(c); e != api.OK {
		giveUp(r.line, e)
	}
	r.s.Config = c
	r.part = theStarts
}

func (r *reader) start() {
	r.goTo(theStarts)
	for _, n := range r.numbers(1, math.MaxInt) {
		r.s.Start = append(r.s.Start, int64(n))
	}
	if len(r.s.Start) > r.s.Config.Cells {
		giveUp(r.line, api.ErrScriptStart)
	}
}

// begin reads the line with which a program begins.
func (r *reader) begin() {
	r.goTo(theThreads)
	r.numbers(0, 0)
	if len(r.s.Programs) == api.MaxThreads {
		giveUp(r.line, api.ErrScriptThreads)
	}
	r.thread = r.line
}

// end reads the line with which a program ends, and the program.
func (r *reader) end() {
	if r.thread == 0 {
		giveUp(r.line, api.ErrScriptLine)
	}
	l, e := code.Join(r.parts()...)
	if e != api.OK {
		giveUp(r.line, e)
	}
	r.s.Programs = append(r.s.Programs, l)
	r.thread, r.body = 0, nil
}

func (r *reader) picks() {
	r.goTo(thePicks)
	r.s.Picks = append(r.s.Picks, r.numbers(1, math.MaxInt)...)
	if len(r.s.Picks) > api.MaxPicks {
		giveUp(r.line, api.ErrScriptPicks)
	}
}

func (r *reader) drain() {
	r.goTo(theDrain)
	n := r.numbers(1, 1)[0]
	if !mayDrain(n) {
		giveUp(r.line, api.ErrScriptPicks)
	}
	r.s.Drain = n
	r.part = theEnd
}

// script is what was read, when all lines have been.
func (r *reader) script() api.Script {
	switch {
	case r.thread > 0:
		giveUp(r.thread, api.ErrScriptLine)
	case r.part == theConfig:
		giveUp(0, api.ErrScriptLine)
	case len(r.s.Programs) == 0:
		giveUp(0, api.ErrScriptThreads)
	}
	return r.s
}

// parts are those of the thread's program.
func (r *reader) parts() [][]api.Instr {
	var parts [][]api.Instr
	first, from := r.thread+1, 0
	for i, raw := range r.body {
		if fields := fieldsOf(raw); isDeed(fields) {
			parts = append(parts, stretch(first+from, r.body[from:i])...)
			parts = append(parts, r.deed(first+i, fields))
			from = i + 1
		}
	}
	return append(parts, stretch(first+from, r.body[from:])...)
}

// stretch reads lines between deeds, the first of which has that number: one part, or none, if they say nothing.
func stretch(first int, lines []string) [][]api.Instr {
	says := slices.IndexFunc(lines, func(raw string) bool { return len(fieldsOf(raw)) > 0 })
	if says < 0 {
		return nil
	}
	l, line, e := code.Parse(strings.Join(lines, "\n") + "\n")
	if e != api.OK {
		if line == 0 {
			line = 1 + says
		}
		giveUp(first+line-1, e)
	}
	return [][]api.Instr{l}
}
