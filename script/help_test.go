package script_test

import (
	"slices"
	"strings"
	"testing"

	"quash/api"
	"quash/code"
	"quash/script"
)

// small is a space's config, and smallLine the line that says it.
var small = api.Config{Cells: 256, Slots: 2, Bits: 8, Tag: api.CommitWins}

const (
	smallLine = "config 256 2 8 1 0 0\n"
	haltLines = "thread\nhalt\nend\n"
)

func in(op api.Op, a int) api.Instr { return api.Instr{Op: op, A: a} }

func list(l ...api.Instr) []api.Instr { return l }

func many[T any](n int, x T) []T { return slices.Repeat([]T{x}, n) }

// plainOne is a script of which nothing is amiss: one thread, which halts.
func plainOne() api.Script {
	return api.Script{Config: small, Programs: [][]api.Instr{list(in(api.DoHalt, 0))}}
}

func same(a, b api.Script) bool {
	return a.Config == b.Config && slices.Equal(a.Start, b.Start) && slices.EqualFunc(a.Programs, b.Programs, slices.Equal) && slices.Equal(a.Picks, b.Picks) && a.Drain == b.Drain
}

func isZero(s api.Script) bool {
	return s.Config == api.Config{} && len(s.Start)+len(s.Programs)+len(s.Picks)+s.Drain == 0
}

// short is enough of a text to tell it by.
func short(text string) string {
	if len(text) > 300 {
		return text[:200] + " .. " + text[len(text)-100:]
	}
	return text
}

func wantCheck(t *testing.T, s api.Script, e api.Errno) {
	t.Helper()
	if got := script.Check(s); got != e {
		t.Error("Check", s.Config, len(s.Start), len(s.Programs), len(s.Picks), s.Drain, got, "want", e)
	}
}

func wantPrint(t *testing.T, s api.Script, want string) {
	t.Helper()
	if text, e := script.Print(s); text != want || e != api.OK {
		t.Errorf("Print: %q %v, want %q", short(text), e, short(want))
	}
}

func wantNoPrint(t *testing.T, s api.Script, want api.Errno) {
	t.Helper()
	if text, e := script.Print(s); text != "" || e != want {
		t.Errorf("Print: %q %v, want %v", short(text), e, want)
	}
}

func wantParse(t *testing.T, text string, want api.Script) {
	t.Helper()
	s, line, e := script.Parse(text)
	if !same(s, want) || line != 0 || e != api.OK {
		t.Errorf("Parse of %q: %v %d %v, want %v", short(text), s, line, e, want)
	}
}

// wantFault asks the line and the error, and that nothing else is told.
func wantFault(t *testing.T, text string, line int, e api.Errno) {
	t.Helper()
	s, at, got := script.Parse(text)
	if at != line || got != e || !isZero(s) {
		t.Errorf("Parse of %q: %v %d %v, want %d %v", short(text), s, at, got, line, e)
	}
}

// program is what code says of a text.
func program(t *testing.T, text string) []api.Instr {
	t.Helper()
	l, line, e := code.Parse(text)
	if line != 0 || e != api.OK {
		t.Fatal(text, line, e)
	}
	return l
}

func join(t *testing.T, parts ...[]api.Instr) []api.Instr {
	t.Helper()
	l, e := code.Join(parts...)
	if e != api.OK {
		t.Fatal(e)
	}
	return l
}

// oneThread is a text of one thread with those lines, the first of which is line 3.
func oneThread(lines ...string) string {
	return smallLine + "thread\n" + strings.Join(lines, "\n") + "\nend\n"
}

func wantProgram(t *testing.T, want []api.Instr, lines ...string) {
	t.Helper()
	s := plainOne()
	s.Programs[0] = want
	wantParse(t, oneThread(lines...), s)
}
