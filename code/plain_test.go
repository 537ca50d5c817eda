package code_test

import (
	"maps"
	"math"
	"math/rand"
	"regexp"
	"slices"
	"strconv"
	"strings"

	"quash/api"
)

// plainState is a state, as the chapter tells it.
type plainState struct {
	depth  int
	inside bool
	base   int
}

type plainSpot struct {
	place int
	state plainState
}

// plainAmiss is what is so at a place, the end too, in a state.
func plainAmiss(l []api.Instr, place int, s plainState) api.Errno {
	if place == len(l) {
		if s.inside {
			return api.ErrCodeTx
		}
		return api.OK
	}
	r := chapter()[l[place].Op-1]
	if s.depth < r.pops || s.depth-r.pops+r.pushes > 32 {
		return api.ErrCodeDepth
	}
	mayOut, mayIn := mayStand(r.word)
	if s.inside && !mayIn || !s.inside && !mayOut {
		return api.ErrCodeTx
	}
	return api.OK
}

// plainNext has the states that follow, where nothing is amiss.
func plainNext(l []api.Instr, place int, s plainState) []plainSpot {
	if place == len(l) {
		return nil
	}
	i := l[place]
	r := chapter()[i.Op-1]
	after := plainState{s.depth - r.pops + r.pushes, s.inside, s.base}
	switch r.word {
	case "halt":
		return nil
	case "jump":
		return []plainSpot{{i.A, after}}
	case "zero":
		return []plainSpot{{place + 1, after}, {i.A, after}}
	case "abort":
		return []plainSpot{{i.A, plainState{depth: s.base}}}
	case "begin":
		return []plainSpot{{place + 1, plainState{s.depth, true, s.depth}}}
	case "commit":
		return []plainSpot{{place + 1, plainState{depth: s.depth}}}
	}
	return []plainSpot{{place + 1, after}}
}

// plainVerify goes round all places, till no round brings a new state.
func plainVerify(l []api.Instr) (api.Errno, int) {
	has := make([]map[plainState]bool, len(l)+1)
	for place := range has {
		has[place] = map[plainState]bool{}
	}
	has[0][plainState{}] = true
	for grown := true; grown; {
		grown = false
		for place := range has {
			for _, s := range slices.Collect(maps.Keys(has[place])) {
				if plainAmiss(l, place, s) != api.OK {
					continue
				}
				for _, next := range plainNext(l, place, s) {
					if !has[next.place][next.state] {
						has[next.place][next.state], grown = true, true
					}
				}
			}
		}
	}
	for place := range has {
		found := map[api.Errno]bool{}
		for s := range has[place] {
			found[plainAmiss(l, place, s)] = true
		}
		found[api.ErrCodeMeet] = place < len(l) && len(has[place]) > 1
		for _, e := range []api.Errno{api.ErrCodeDepth, api.ErrCodeTx, api.ErrCodeMeet} {
			if found[e] {
				return e, place
			}
		}
	}
	return api.OK, 0
}

var (
	comment  = regexp.MustCompile(`(?s);.*$`)
	edges    = regexp.MustCompile(`^[ \t]*|[ \t]*$`)
	label    = regexp.MustCompile(`^([a-z][a-z0-9-]{0,15}):$`)
	operands = []*regexp.Regexp{ // by what is taken
		regexp.MustCompile(`^$`),
		regexp.MustCompile(`^[ \t]+(0|-?[1-9][0-9]*)$`),
		regexp.MustCompile(`^[ \t]+([0-7])$`),
		regexp.MustCompile(`^[ \t]+(0|[1-9][0-9]*|[a-z][a-z0-9-]{0,15})$`),
	}
)

// plainParse reads a text by patterns.
func plainParse(text string) ([]api.Instr, int, api.Errno) {
	if len(text) > 65536 {
		return nil, 0, api.ErrCodeLong
	}
	labels := map[string]int{}
	var program []api.Instr
	var froms []int
	var names []string
	for i, line := range strings.Split(text, "\n") {
		line = comment.ReplaceAllString(line, "")
		line = edges.ReplaceAllString(line, "")
		if line == "" {
			continue
		}
		if m := label.FindStringSubmatch(line); m != nil {
			if _, in := labels[m[1]]; in {
				return nil, i + 1, api.ErrCodeName
			}
			if len(labels) == 400 {
				return nil, i + 1, api.ErrCodeLong
			}
			labels[m[1]] = len(program)
			continue
		}
		instr, name, ok := plainInstruction(line)
		if !ok {
			return nil, i + 1, api.ErrCodeLine
		}
		if len(program) == 400 {
			return nil, i + 1, api.ErrCodeLong
		}
		program, froms, names = append(program, instr), append(froms, i+1), append(names, name)
	}
	for i := range program {
		if names[i] != "" {
			place, in := labels[names[i]]
			if !in {
				return nil, froms[i], api.ErrCodeName
			}
			program[i].A = place
		} else if chapter()[program[i].Op-1].takes == 3 && program[i].A > len(program) {
			return nil, froms[i], api.ErrCodeArg
		}
	}
	if len(program) == 0 {
		return nil, 0, api.ErrCodeLong
	}
	return program, 0, api.OK
}

// plainInstruction is what a line says, and the name of its label, if it has one.
func plainInstruction(line string) (api.Instr, string, bool) {
	for _, r := range chapter() {
		rest, ok := strings.CutPrefix(line, r.word)
		m := operands[r.takes].FindStringSubmatch(rest)
		if !ok || m == nil {
			continue
		}
		if r.takes == 0 {
			return in(r.op, 0), "", true
		}
		if m[1][0] >= 'a' {
			return in(r.op, 0), m[1], true
		}
		a, err := strconv.ParseInt(m[1], 10, 64)
		return in(r.op, int(a)), "", err == nil
	}
	return api.Instr{}, "", false
}

// randomPrograms has programs that Check takes, among them many of which little is amiss.
func randomPrograms(n int) [][]api.Instr {
	source := rand.New(rand.NewSource(int64(n)))
	var all [][]api.Instr
	for i := range n {
		length := 1 + source.Intn(30)
		if i%200 == 0 {
			length = 1 + source.Intn(400)
		}
		wild := []int{0, 0, 0, 2, 10, 50}[source.Intn(6)]
		stray := []int{0, 0, 30, 100}[source.Intn(4)]
		all = append(all, randomProgram(source, length, wild, stray))
	}
	return all
}

// randomProgram follows a state from place to place, and lets wild of 100 instructions be of any kind, and stray of 100 places any.
func randomProgram(source *rand.Rand, length, wild, stray int) []api.Instr {
	var l []api.Instr
	states := []plainState{}
	now := plainState{}
	for place := range length {
		states = append(states, now)
		i := randomInstr(source, length)
		for range 200 {
			right := plainAmiss(append(l, i), place, now) == api.OK
			closes := length-place < 4 && now.inside && i.Op != api.DoCommit && i.Op != api.DoAbort
			grows := i.Op == api.DoPush && now.depth > 3 && source.Intn(4) > 0
			if source.Intn(100) < wild || right && !closes && !grows {
				break
			}
			i = randomInstr(source, length)
		}
		l = append(l, i)
		if plainAmiss(l, place, now) == api.OK {
			for _, next := range plainNext(l, place, now) {
				now = next.state
			}
		}
	}
	mendPlaces(source, l, states, stray)
	return l
}

// mendPlaces lets most jumps go to where their state is that of the way along.
func mendPlaces(source *rand.Rand, l []api.Instr, states []plainState, stray int) {
	for place := range l {
		if chapter()[l[place].Op-1].takes != 3 || source.Intn(100) < stray || plainAmiss(l, place, states[place]) != api.OK {
			continue
		}
		for range 20 {
			next := plainNext(l, place, states[place])
			goal := next[len(next)-1]
			if goal.place < len(l) && states[goal.place] == goal.state || goal.place == len(l) && !goal.state.inside {
				break
			}
			l[place].A = source.Intn(len(l) + 1)
		}
	}
}

func randomInstr(source *rand.Rand, length int) api.Instr {
	r := chapter()[source.Intn(22)]
	switch r.takes {
	case 1:
		return in(r.op, []int{0, 1, -1, 5, math.MinInt, math.MaxInt, int(source.Uint64())}[source.Intn(7)])
	case 2:
		return in(r.op, source.Intn(8))
	case 3:
		return in(r.op, source.Intn(length+1))
	}
	return in(r.op, 0)
}
