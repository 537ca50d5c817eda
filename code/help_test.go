package code_test

import (
	"math"
	"slices"
	"strings"
	"testing"

	"quash/api"
	"quash/code"
)

// told is a row of the chapter's table.
type told struct {
	op           api.Op
	word         string
	takes        api.Operand
	pops, pushes int
}

var chapterRows = []told{
	{1, "push", 1, 0, 1},
	{2, "pop", 0, 1, 0},
	{3, "dup", 0, 1, 2},
	{4, "swap", 0, 2, 2},
	{5, "get", 2, 0, 1},
	{6, "set", 2, 1, 0},
	{7, "add", 0, 2, 1},
	{8, "sub", 0, 2, 1},
	{9, "mul", 0, 2, 1},
	{10, "mod", 0, 2, 1},
	{11, "less", 0, 2, 1},
	{12, "same", 0, 2, 1},
	{13, "not", 0, 1, 1},
	{14, "jump", 3, 0, 0},
	{15, "zero", 3, 1, 0},
	{16, "begin", 0, 0, 0},
	{17, "load", 0, 1, 1},
	{18, "store", 0, 2, 0},
	{19, "commit", 0, 0, 0},
	{20, "abort", 3, 0, 0},
	{21, "tell", 0, 1, 0},
	{22, "halt", 0, 0, 0},
}

func chapter() []told { return chapterRows }

// noOps are numbers of no instruction.
func noOps() []api.Op {
	return []api.Op{0, -1, 23, 24, 255, 256, 257, 1<<32 + 1, math.MinInt, math.MinInt + 1, math.MaxInt}
}

func in(op api.Op, a int) api.Instr { return api.Instr{Op: op, A: a} }

func list(l ...api.Instr) []api.Instr { return l }

// many has so many times one instruction.
func many(n int, i api.Instr) []api.Instr { return slices.Repeat([]api.Instr{i}, n) }

// lines are put together, each with a byte 10 between.
func lines(l ...string) string { return strings.Join(l, "\n") }

// program is what a text says.
func program(t *testing.T, text string) []api.Instr {
	t.Helper()
	l, n, e := code.Parse(text)
	if n != 0 || e != api.OK {
		t.Fatal(text, n, e)
	}
	return l
}

func wantCheck(t *testing.T, l []api.Instr, e api.Errno, at int) {
	t.Helper()
	if gotE, gotAt := code.Check(l); gotE != e || gotAt != at {
		t.Error("Check", len(l), l, gotE, gotAt, "want", e, at)
	}
}

func wantVerify(t *testing.T, text string, e api.Errno, at int) {
	t.Helper()
	if gotE, gotAt := code.Verify(program(t, text)); gotE != e || gotAt != at {
		t.Errorf("Verify of\n%s\n%v %d, want %v %d", text, gotE, gotAt, e, at)
	}
}

func wantParse(t *testing.T, text string, want []api.Instr) {
	t.Helper()
	l, n, e := code.Parse(text)
	if !slices.Equal(l, want) || n != 0 || e != api.OK {
		t.Errorf("Parse of %q: %v %d %v, want %v", text, l, n, e, want)
	}
}

func wantFault(t *testing.T, text string, e api.Errno, line int) {
	t.Helper()
	l, n, got := code.Parse(text)
	if len(l) != 0 || n != line || got != e {
		short := text
		if len(short) > 200 {
			short = short[:200] + ".."
		}
		t.Errorf("Parse of %q: %v %d %v, want %d %v", short, l, n, got, line, e)
	}
}

func wantJoin(t *testing.T, want []api.Instr, parts ...[]api.Instr) {
	t.Helper()
	l, e := code.Join(parts...)
	if !slices.Equal(l, want) || e != api.OK {
		t.Error("Join", parts, l, e, "want", want)
	}
}

func wantNoJoin(t *testing.T, e api.Errno, parts ...[]api.Instr) {
	t.Helper()
	l, got := code.Join(parts...)
	if len(l) != 0 || got != e {
		t.Error("Join", len(parts), l, got, "want", e)
	}
}
