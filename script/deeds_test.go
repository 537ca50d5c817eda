package script_test

import (
	"fmt"
	"strconv"
	"strings"
	"testing"

	"quash/api"
	"quash/bank"
	"quash/code"
	"quash/deque"
	"quash/dict"
	"quash/script"
	"quash/set"
)

// told is a deed as a line tells it, at a base of 10 and of size 3.
type told struct {
	structure, words string
	d                api.Deed
}

func deeds() []told {
	return []told{
		{"bank", "pay 2 7", api.Deed{Op: api.BankPay, A: 2, X: 7}},
		{"bank", "take 1 2147483648", api.Deed{Op: api.BankTake, A: 1, X: 1 << 31}},
		{"bank", "move 1 2 5", api.Deed{Op: api.BankMove, A: 1, B: 2, X: 5}},
		{"bank", "see 2", api.Deed{Op: api.BankSee, A: 2}},
		{"bank", "sum", api.Deed{Op: api.BankSum}},
		{"set", "put -9223372036854775808", api.Deed{Op: api.SetPut, X: -1 << 63}},
		{"set", "drop 9223372036854775807", api.Deed{Op: api.SetDrop, X: 1<<63 - 1}},
		{"set", "has -3", api.Deed{Op: api.SetHas, X: -3}},
		{"set", "least", api.Deed{Op: api.SetLeast}},
		{"set", "size", api.Deed{Op: api.SetSize}},
		{"dict", "put -4 5", api.Deed{Op: api.DictPut, X: -4, Y: 5}},
		{"dict", "get 7", api.Deed{Op: api.DictGet, X: 7}},
		{"dict", "drop 8", api.Deed{Op: api.DictDrop, X: 8}},
		{"dict", "add 9 -1", api.Deed{Op: api.DictAdd, X: 9, Y: -1}},
		{"dict", "size", api.Deed{Op: api.DictSize}},
		{"deque", "push 5", api.Deed{Op: api.DequePush, X: 5}},
		{"deque", "shove -6", api.Deed{Op: api.DequeShove, X: -6}},
		{"deque", "pop", api.Deed{Op: api.DequePop}},
		{"deque", "shift", api.Deed{Op: api.DequeShift}},
		{"deque", "size", api.Deed{Op: api.DequeSize}},
	}
}

// codeOf is what the structure's own package says.
func codeOf(structure string, base, n int, d api.Deed) ([]api.Instr, api.Errno) {
	switch structure {
	case "bank":
		return bank.Code(base, n, d)
	case "set":
		return set.Code(base, n, d)
	case "dict":
		return dict.Code(base, n, d)
	}
	return deque.Code(base, n, d)
}

func deedCode(t *testing.T, structure string, base, n int, d api.Deed) []api.Instr {
	t.Helper()
	l, e := codeOf(structure, base, n, d)
	if e != api.OK {
		t.Fatal(structure, base, n, d, e)
	}
	return l
}

// argOf is what the structure's package says of a deed that may not be.
func argOf(structure string) api.Errno {
	return map[string]api.Errno{"bank": api.ErrBankArg, "set": api.ErrSetArg, "dict": api.ErrDictArg, "deque": api.ErrDequeArg}[structure]
}

// P23.3: deeds

func TestEveryDeed(t *testing.T) {
	for _, c := range deeds() {
		want := deedCode(t, c.structure, 10, 3, c.d)
		line := "do " + c.structure + " 10 3 " + c.words
		wantProgram(t, want, line)
		wantProgram(t, want, "\t"+strings.ReplaceAll(line, " ", " \t ")+" ; do")
		wantProgram(t, want, "", line, ";", "")
		wantProgram(t, join(t, want, want), line, line)
		for _, where := range [][2]int{{0, 3}, {10, 12}, {0, 60}, {70, 60}, {253, 3}, {200, 20}} {
			l, e := codeOf(c.structure, where[0], where[1], c.d)
			line := fmt.Sprint("do ", c.structure, " ", where[0], " ", where[1], " ", c.words)
			if e == api.OK {
				wantProgram(t, l, line)
			} else {
				wantFault(t, oneThread(line), 3, e)
			}
		}
	}
}

func TestDeedsThatAreNone(t *testing.T) {
	for _, c := range deeds() {
		line := "do " + c.structure + " 10 3 " + c.words
		fields := strings.Fields(line)
		lines := []string{line + " 1", line + " x", line + " do", line + " 1 1 1 1"}
		for n := 1; n < len(fields); n++ {
			lines = append(lines, strings.Join(fields[:n], " "))
		}
		for at := range fields {
			for _, other := range []string{"x", "01", "+1", "-", "-0", "9223372036854775808", "-9223372036854775809", "1.0", "DO", "", "1\r"} {
				with := append([]string{}, fields...)
				with[at] = other
				if text := strings.Join(with, " "); at > 0 && text != line {
					lines = append(lines, text)
				}
			}
		}
		for _, wrong := range lines {
			wantFault(t, oneThread(wrong), 3, api.ErrScriptLine)
		}
	}
}

// A word of another structure is none.
func TestWordsOfOtherStructures(t *testing.T) {
	words := map[string]string{
		"bank":  "pay 2 take 2 move 3 see 1 sum 0",
		"set":   "put 1 drop 1 has 1 least 0 size 0",
		"dict":  "put 2 get 1 drop 1 add 2 size 0",
		"deque": "push 1 shove 1 pop 0 shift 0 size 0",
		"space": "", "Bank": "", "banks": "", "do": "",
	}
	all := strings.Fields("pay take move see sum put drop has least size get add push shove pop shift none put: 0 do end")
	for structure, have := range words {
		for _, word := range all {
			for n := range 5 {
				line := "do " + structure + " 10 3 " + word + strings.Repeat(" 0", n)
				if strings.Contains(" "+have+" ", fmt.Sprint(" ", word, " ", n, " ")) {
					if _, _, e := script.Parse(oneThread(line)); e != api.OK {
						t.Error(line, e)
					}
				} else {
					wantFault(t, oneThread(line), 3, api.ErrScriptLine)
				}
			}
		}
	}
}

func TestDeedsThatMayNotBe(t *testing.T) {
	for _, c := range deeds() {
		for _, where := range []string{"10 0", "10 -1", "10 101", "-1 3", "256 1", "255 3", "9223372036854775807 3", "-9223372036854775808 3", "3 9223372036854775807"} {
			line := "do " + c.structure + " " + where + " " + c.words
			wantFault(t, oneThread(line), 3, argOf(c.structure))
			wantFault(t, oneThread("", "halt", ";", line, "halt"), 6, argOf(c.structure))
			// A line that is none is said ahead of that.
			wantFault(t, oneThread(line+" x"), 3, api.ErrScriptLine)
		}
	}
	for _, words := range []string{"pay 3 1", "pay -1 1", "pay 0 -1", "pay 0 2147483649", "take 3 1", "take 0 -1", "move 0 3 1", "move 3 0 1", "move 0 0 -1", "see 3", "see -1"} {
		wantFault(t, oneThread("do bank 10 3 "+words), 3, api.ErrBankArg)
	}
}

// The config's cells are not asked: a deed may be about cells that the space has not.
func TestDeedsOverCellsThatAreNotThere(t *testing.T) {
	s := plainOne()
	s.Config.Cells = 1
	s.Programs[0] = deedCode(t, "bank", 250, 6, api.Deed{Op: api.BankSum})
	wantParse(t, "config 1 2 8 1 0 0\nthread\ndo bank 250 6 sum\nend", s)
}

// P23.3: stretches and parts

func TestStretchesAndDeeds(t *testing.T) {
	sum := deedCode(t, "bank", 0, 2, api.Deed{Op: api.BankSum})
	size := deedCode(t, "set", 4, 3, api.Deed{Op: api.SetSize})
	loop := list(in(api.DoPush, 1), in(api.DoZero, 0), in(api.DoJump, 3))
	const sumLine, sizeLine = "do bank 0 2 sum", "do set 4 3 size"
	loopLines := []string{"a:", "push 1 ; one", "", "zero a", "jump b", "b:"}
	text := strings.Join(loopLines, "\n")
	wantProgram(t, loop, text)
	wantProgram(t, join(t, loop, sum), text, sumLine)
	wantProgram(t, join(t, sum, loop), sumLine, text)
	wantProgram(t, join(t, sum, size), sumLine, sizeLine)
	// Labels and places are a stretch's own.
	wantProgram(t, join(t, loop, sum, loop, size, loop), text, sumLine, text, sizeLine, text)
	wantProgram(t, join(t, sum, loop, size, sum), "; first", sumLine, "", text, " ", sizeLine, ";", "\t", sumLine, ";")
	wantProgram(t, join(t, list(in(api.DoJump, 1)), sum, list(in(api.DoJump, 0))), "jump 1", sumLine, "jump 0")
}

func TestFaultsOfStretches(t *testing.T) {
	for _, c := range []struct {
		line int
		e    api.Errno
		text string
	}{
		{3, api.ErrCodeLine, "push"},
		{4, api.ErrCodeLine, "halt/pop 1"},
		{7, api.ErrCodeLine, ";/halt/ //x/y"},
		{5, api.ErrCodeLine, "halt/do bank 0 2 sum/x"},
		{3, api.ErrCodeLine, "x/do bank"},
		{4, api.ErrScriptLine, "halt/do bank/x"},
		{3, api.ErrCodeLine, "end: x"},
		{3, api.ErrCodeLine, "thread"},
		{3, api.ErrCodeLine, "config 4 2 8 1 0 0"},
		{3, api.ErrCodeLine, "picks 1"},
		{3, api.ErrCodeLine, "Do bank 0 2 sum"},
		{3, api.ErrCodeLine, "dobank 0 2 sum"},
		{4, api.ErrCodeName, "a:/a:/halt"},
		{5, api.ErrCodeName, "halt/;/jump b"},
		{5, api.ErrCodeName, "a:/halt/jump b/jump c"},
		{6, api.ErrCodeName, "a:/halt/do bank 0 2 sum/jump a"},
		{3, api.ErrCodeName, "jump a/do bank 0 2 sum/a:/halt"},
		{5, api.ErrCodeArg, "//jump 2"},
		{5, api.ErrCodeArg, "halt/do bank 0 2 sum/jump 2"},
		{3, api.ErrCodeArg, "jump 2/do bank 0 2 sum"},
		{3, api.ErrCodeLong, "a:"},
		{5, api.ErrCodeLong, "/;/a:/;/b:"},
		{3, api.ErrCodeLong, "a:/do set 0 1 size"},
		{5, api.ErrCodeLong, "do set 0 1 size//a:/do set 0 1 size"},
		{6, api.ErrCodeLong, "do set 0 1 size/;/\t/a:/"},
		{5, api.ErrCodeLong, "/ / b:// "},
		{7, api.ErrSetArg, "do set 0 1 size/halt/;//do set 0 61 size/do set 0 62 size/x"},
		{5, api.ErrScriptLine, "do set 0 1 size/do set 0 1 least/do set 0 1 first/do set 0 0 size"},
		{5, api.ErrDictArg, "do set 0 1 size/do set 0 1 least/do dict 0 0 size/do set 0 1 first"},
	} {
		text := oneThread(strings.Split(c.text, "/")...)
		wantFault(t, text, c.line, c.e)
		wantFault(t, strings.Replace(text, "thread", "start 5\n\n"+haltLines+";\nthread", 1), c.line+6, c.e)
	}
}

// With no part, and with more instructions together than may be, it is the end's line that tells it.
func TestFaultsOfAJoin(t *testing.T) {
	wantFault(t, smallLine+"thread\nend", 3, api.ErrCodeLong)
	wantFault(t, oneThread(""), 4, api.ErrCodeLong)
	wantFault(t, oneThread("; halt", "\t", "", " ;"), 7, api.ErrCodeLong)
	wantFault(t, smallLine+haltLines+"thread\nend", 6, api.ErrCodeLong)
	sum := deedCode(t, "bank", 0, 2, api.Deed{Op: api.BankSum})
	fits := 400 - len(sum)
	halts := strings.TrimSuffix(strings.Repeat("halt\n", fits), "\n")
	halt := many(fits, in(api.DoHalt, 0))
	wantProgram(t, join(t, sum, halt), "do bank 0 2 sum", halts)
	wantProgram(t, join(t, halt, sum), halts, "do bank 0 2 sum")
	wantFault(t, oneThread("do bank 0 2 sum", halts, "halt"), 3+1+fits+1, api.ErrCodeLong)
	wantFault(t, oneThread(halts, "halt", "do bank 0 2 sum"), 3+fits+1+1, api.ErrCodeLong)
	wantFault(t, oneThread("do bank 0 2 sum", halts, ";", "do bank 0 2 sum", ""), 3+1+fits+1+1+1, api.ErrCodeLong)
	// One stretch alone that is too long is told by its line.
	wantProgram(t, many(400, in(api.DoHalt, 0)), strings.Repeat("halt\n", 399)+"halt")
	wantFault(t, oneThread(strings.Repeat("halt\n", 402)), 403, api.ErrCodeLong)
	wantFault(t, oneThread("", "do bank 0 2 sum", strings.Repeat("halt\n", 402)), 405, api.ErrCodeLong)
	// What is wrong with a part is told ahead of that.
	wantFault(t, oneThread(halts, "do bank 0 2 sum", "do bank 0 2 sum", "x"), 3+fits+2, api.ErrCodeLine)
	wantFault(t, oneThread(halts, "do bank 0 2 sum", "do bank 0 2 sum", "do bank 0 65 sum"), 3+fits+2, api.ErrBankArg)
}

// A stretch's text is as long as its lines are, with remarks and blanks.
func TestLongStretches(t *testing.T) {
	remark := func(n int) string { return ";" + strings.Repeat("x", n-1) }
	halt := list(in(api.DoHalt, 0))
	wantProgram(t, halt, "halt", remark(65536-6))
	wantFault(t, oneThread("halt", remark(65536-5)), 3, api.ErrCodeLong)
	wantFault(t, oneThread("", remark(65536-5), " halt"), 5, api.ErrCodeLong)
	wantProgram(t, halt, strings.Repeat(" ", 65536-5)+"halt")
	wantFault(t, oneThread(strings.Repeat(" ", 65536-4)+"halt"), 3, api.ErrCodeLong)
	// Too long ahead of what is wrong in it, and not too long where it says nothing.
	wantFault(t, oneThread("", "x", remark(65536)), 4, api.ErrCodeLong)
	sum := deedCode(t, "bank", 0, 2, api.Deed{Op: api.BankSum})
	wantProgram(t, sum, remark(70000), "do bank 0 2 sum", remark(70000))
	wantProgram(t, sum, strings.Repeat("\n", 70000), "do bank 0 2 sum "+remark(70000))
	wantProgram(t, join(t, halt, sum, halt), "halt", remark(60000), "do bank 0 2 sum", "halt", remark(60000))
	wantFault(t, oneThread("halt", remark(60000), "do bank 0 2 sum", "", "halt", remark(66000)), 7, api.ErrCodeLong)
}

// An end has one field; what only begins like it is a line of the program, and wrong as code is.
func TestEnds(t *testing.T) {
	for _, end := range []string{"end x", "end 1", "end end", "end\tdo", " end  thread ", "end .", "end :", "end c ; end"} {
		wantFault(t, smallLine+"thread\n"+end, 2, api.ErrScriptLine)
		wantFault(t, smallLine+"thread\nhalt\n"+end, 2, api.ErrScriptLine)
		wantFault(t, smallLine+haltLines+"\nthread\n"+end+"\nthread\ndo\n"+end+"\n", 6, api.ErrScriptLine)
		wantFault(t, oneThread(end), 3, api.ErrCodeLine)
		wantFault(t, oneThread("halt", end), 4, api.ErrCodeLine)
		wantFault(t, oneThread(end, "halt"), 3, api.ErrCodeLine)
		wantFault(t, oneThread("halt ; "+end, "; all", end), 5, api.ErrCodeLine)
		wantFault(t, oneThread("halt", end, "thread", "halt"), 4, api.ErrCodeLine)
		wantFault(t, smallLine+haltLines+end+"\n"+haltLines, 5, api.ErrScriptLine)
	}
	wantProgram(t, list(in(api.DoJump, 0)), "end:", "jump end")
	wantFault(t, oneThread("halt", "end; x"), 5, api.ErrScriptLine) // that is one: the second one is too many
	for _, line := range []string{"ends", "END", "end:x", "x end"} {
		wantFault(t, oneThread(line), 3, api.ErrCodeLine)
	}
}

// Of a line that only begins like an end it is told in its turn, as of any other of its stretch.
func TestEndsAmongOtherFaults(t *testing.T) {
	for _, c := range []struct {
		line int
		e    api.Errno
		text string
	}{
		{3, api.ErrCodeLine, "x/end c"},
		{3, api.ErrCodeLine, "end c/x"},
		{4, api.ErrCodeName, "a:/a:/end c"},
		{4, api.ErrCodeLine, "jump b/end c"},
		{4, api.ErrCodeLine, "jump 9/end c"},
		{5, api.ErrCodeLine, "do bank 0 2 sum/halt/end c"},
		{3, api.ErrCodeLine, "end c/do bank"},
		{3, api.ErrScriptLine, "do bank/end c"},
		{4, api.ErrSetArg, "halt/do set 0 61 size/end c"},
		{3, api.ErrCodeLong, "a:/do bank 0 2 sum/end c"},
		{4, api.ErrCodeLine, "halt/end c/thread/end 1"},
	} {
		text := oneThread(strings.Split(c.text, "/")...)
		wantFault(t, text, c.line, c.e)
		wantFault(t, strings.TrimSuffix(text, "end\n"), 2, api.ErrScriptLine)
	}
	// It counts for how long a stretch's text is.
	wantFault(t, oneThread("", "end "+strings.Repeat("c", 65536-6)), 4, api.ErrCodeLine)
	wantFault(t, oneThread("", "end "+strings.Repeat("c", 65536-5)), 4, api.ErrCodeLong)
}

// Deeds' programs stand in a program as they are, whatever they are.
func TestManyDeeds(t *testing.T) {
	var lines []string
	var parts [][]api.Instr
	for i := range 200 {
		a := i % 5
		lines = append(lines, "do bank 3 5 see "+strconv.Itoa(a))
		parts = append(parts, deedCode(t, "bank", 3, 5, api.Deed{Op: api.BankSee, A: a}))
		whole, e := code.Join(parts...)
		if e == api.OK {
			wantProgram(t, whole, lines...)
		} else {
			wantFault(t, oneThread(lines...), 3+len(lines), api.ErrCodeLong)
		}
	}
	wantFault(t, oneThread(append(lines, "do bank 3 5 see 5")...), 3+len(lines), api.ErrBankArg)
}
