package script_test

import (
	"fmt"
	"math"
	"math/rand"
	"slices"
	"strings"
	"testing"

	"quash/api"
	"quash/code"
	"quash/script"
)

func anyInt(rnd *rand.Rand) int {
	switch rnd.Intn(4) {
	case 0:
		return int(rnd.Uint64())
	case 1:
		return []int{math.MinInt, math.MaxInt, 0, -1, 1}[rnd.Intn(5)]
	}
	return rnd.Intn(2001) - 1000
}

// anyScript has a script that may be.
func anyScript(rnd *rand.Rand) api.Script {
	s := api.Script{
		Config: api.Config{Cells: 1 + rnd.Intn(256), Slots: 1 + rnd.Intn(8), Bits: 1 + rnd.Intn(128), Tag: 1 + rnd.Intn(3), Bias: rnd.Intn(9), Defer: rnd.Intn(65)},
		Drain:  rnd.Intn(65537),
	}
	for range rnd.Intn(s.Config.Cells + 1) {
		s.Start = append(s.Start, int64(anyInt(rnd)))
	}
	for range 1 + rnd.Intn(8) {
		l := make([]api.Instr, 1+rnd.Intn(12))
		for i := range l {
			op := api.Op(1 + rnd.Intn(22))
			l[i].Op = op
			switch code.Takes(op) {
			case api.TakesNumber:
				l[i].A = anyInt(rnd)
			case api.TakesLocal:
				l[i].A = rnd.Intn(8)
			case api.TakesPlace:
				l[i].A = rnd.Intn(len(l) + 1)
			}
		}
		s.Programs = append(s.Programs, l)
	}
	for range rnd.Intn(30) {
		s.Picks = append(s.Picks, anyInt(rnd))
	}
	return s
}

// P23.5

func TestParseOfPrint(t *testing.T) {
	rnd := rand.New(rand.NewSource(2301))
	for range 1500 {
		s := anyScript(rnd)
		wantCheck(t, s, api.OK)
		text, e := script.Print(s)
		if e != api.OK {
			t.Fatal(s, e)
		}
		wantParse(t, text, s)
		// Its last byte 10 may be left out.
		wantParse(t, strings.TrimSuffix(text, "\n"), s)
		wantPrint(t, s, text)
	}
}

// Lines that say nothing, and blanks, change nothing.
func TestLooseTexts(t *testing.T) {
	rnd := rand.New(rand.NewSource(2302))
	for range 600 {
		s := anyScript(rnd)
		text, _ := script.Print(s)
		var loose strings.Builder
		for _, line := range strings.Split(text, "\n") {
			for rnd.Intn(3) == 0 {
				loose.WriteString([]string{"\n", " \t\n", ";\n", "\t; end\n", " ; do bank\n"}[rnd.Intn(5)])
			}
			fields := strings.Fields(line)
			for i, field := range fields {
				if i > 0 && (fields[0] == "start" || fields[0] == "picks") && i < len(fields)-1 && rnd.Intn(4) == 0 {
					fmt.Fprint(&loose, " ", field, " ; more\n\t", fields[0])
					continue
				}
				loose.WriteString([]string{" ", "\t", "  ", " \t "}[rnd.Intn(4)] + field)
			}
			loose.WriteString([]string{"", " ", "\t", "; x", " ;end"}[rnd.Intn(5)] + "\n")
		}
		wantParse(t, loose.String(), s)
	}
}

// anyBody are the lines of a program, in most of which nothing is amiss.
func anyBody(rnd *rand.Rand) []string {
	var lines []string
	for range 1 + rnd.Intn(7) {
		switch rnd.Intn(5) {
		case 0:
			d := deeds()[rnd.Intn(20)]
			lines = append(lines, fmt.Sprint("do ", d.structure, " ", rnd.Intn(100), " ", 3+rnd.Intn(40), " ", d.words))
		case 1:
			lines = append(lines, []string{"", "; x", " \t", ";"}[rnd.Intn(4)])
		case 2:
			lines = append(lines, fmt.Sprint("push ", anyInt(rnd)), "set 3")
		case 3:
			name := string(rune('a' + len(lines)))
			lines = append(lines, name+":", "jump "+name)
		case 4:
			lines = append(lines, "halt")
		}
		if rnd.Intn(20) == 0 {
			lines = append(lines, []string{"a:", "b:", "jump c", "push", "jump 300", "do", "do set 0 61 size", "do bank 0 2 pay 2 1", "do dict 0 1 least", "end 1", "start 1"}[rnd.Intn(11)])
		}
	}
	return lines
}

// anyLines are those of a text, in which perhaps something is amiss.
func anyLines(rnd *rand.Rand) []string {
	cells := 1 + rnd.Intn(5)
	slots := 1 + rnd.Intn(8)
	if rnd.Intn(100) == 0 {
		slots = 9
	}
	lines := []string{fmt.Sprint("config ", cells, " ", slots, " 8 ", 1+rnd.Intn(3), " 0 0")}
	for range rnd.Intn(cells + 1) {
		lines = append(lines, fmt.Sprint("start ", anyInt(rnd)))
	}
	for range 1 + rnd.Intn(8) {
		lines = append(lines, "thread")
		lines = append(lines, anyBody(rnd)...)
		lines = append(lines, "end")
	}
	for range rnd.Intn(4) {
		lines = append(lines, fmt.Sprint("picks ", anyInt(rnd), " ", anyInt(rnd)))
	}
	if rnd.Intn(2) == 0 {
		lines = append(lines, fmt.Sprint("drain ", rnd.Intn(66000)))
	}
	return lines
}

// spoil changes something of lines.
func spoil(rnd *rand.Rand, lines []string) []string {
	at, other := rnd.Intn(len(lines)), rnd.Intn(len(lines))
	switch rnd.Intn(6) {
	case 0:
		return slices.Delete(lines, at, at+1)
	case 1:
		return slices.Insert(lines, at, lines[other])
	case 2:
		lines[at], lines[other] = lines[other], lines[at]
	case 3:
		lines[at] += []string{" ", " 1", " x", ";", ":", "0"}[rnd.Intn(6)]
	case 4:
		return lines[:at]
	case 5:
		text := lines[at]
		if len(text) > 0 {
			cut := rnd.Intn(len(text))
			lines[at] = text[:cut] + []string{"", " ", "-", "9", "\t", ";", "end", "\n"}[rnd.Intn(8)] + text[cut+1:]
		}
	}
	return lines
}

// What Parse answers is what a plain reading of the chapter is, and Check takes it.
func TestParseAgainstAPlainReading(t *testing.T) {
	rnd := rand.New(rand.NewSource(2303))
	found := map[api.Errno]int{}
	for range 30000 {
		lines := anyLines(rnd)
		for range rnd.Intn(3) {
			if len(lines) > 0 {
				lines = spoil(rnd, lines)
			}
		}
		text := strings.Join(lines, "\n")
		s, line, e := script.Parse(text)
		want, wantLine, wantE := plainParse(text)
		if !same(s, want) || line != wantLine || e != wantE {
			t.Fatalf("Parse of %q: %v %d %v, want %v %d %v", text, s, line, e, want, wantLine, wantE)
		}
		found[e]++
		if e == api.OK {
			wantCheck(t, s, api.OK)
			again, _ := script.Print(s)
			wantParse(t, again, s)
		}
	}
	for _, e := range []api.Errno{
		api.OK, api.ErrArg, api.ErrCodeLong, api.ErrCodeLine, api.ErrCodeName, api.ErrCodeArg, api.ErrBankArg, api.ErrSetArg, api.ErrScriptStart, api.ErrScriptThreads, api.ErrScriptPicks, api.ErrScriptLine,
	} {
		if found[e] < 10 {
			t.Error("too few", e, found)
		}
	}
}

// P23.4 and R4

func TestNothingThatIsHandedInIsChanged(t *testing.T) {
	rnd := rand.New(rand.NewSource(2304))
	for range 300 {
		s := anyScript(rnd)
		if rnd.Intn(3) == 0 {
			s.Drain = -1
		}
		// Spare room that is written upon.
		starts := append(slices.Clone(s.Start), 77, 77)
		picks := append(slices.Clone(s.Picks), 88, 88)
		programs := append(slices.Clone(s.Programs), list(in(99, 99)))
		instrs := append(slices.Clone(s.Programs[0]), in(99, 99))
		given := s
		given.Start, given.Picks, given.Programs = starts[:len(s.Start)], picks[:len(s.Picks)], programs[:len(s.Programs)]
		given.Programs[0] = instrs[:len(s.Programs[0])]
		script.Check(given)
		script.Print(given)
		if !same(given, s) {
			t.Fatal(given, s)
		}
		if !slices.Equal(starts[len(s.Start):], []int64{77, 77}) || !slices.Equal(picks[len(s.Picks):], []int{88, 88}) || programs[len(s.Programs)][0] != in(99, 99) || instrs[len(s.Programs[0])] != in(99, 99) {
			t.Fatal("spare room", s)
		}
	}
}

func TestWhatIsAnsweredIsNew(t *testing.T) {
	s := plainOne()
	s.Start, s.Picks, s.Programs = []int64{1, 2, 3}, []int{4, 5, 6}, many(3, list(in(api.DoPush, 1), in(api.DoHalt, 0)))
	text, _ := script.Print(s)
	a, _, _ := script.Parse(text)
	b, _, _ := script.Parse(text)
	// What is written behind the ends of a's lists, or into them, is to be seen nowhere else.
	for i := range a.Programs {
		full := a.Programs[i][:cap(a.Programs[i])]
		for k := range full {
			full[k] = in(api.DoPop, i)
		}
		for k := range a.Programs {
			if want := (in(api.DoPop, k)); k <= i && a.Programs[k][0] != want || k > i && a.Programs[k][0] != in(api.DoPush, 1) {
				t.Error(i, k, a.Programs[k])
			}
		}
	}
	clear(a.Start[:cap(a.Start)])
	clear(a.Picks[:cap(a.Picks)])
	clear(a.Programs[:cap(a.Programs)])
	if !same(b, s) {
		t.Error(b)
	}
	wantParse(t, text, s)
}

// Nothing is kept from call to call, and nothing hangs on a map's order.
func TestSameAnswersEachTime(t *testing.T) {
	const wrong = smallLine + "thread\nhalt\nend\nthread\ndo bank\nend\nstart 1"
	text := oneThread("do dict 0 9 put 3 4", "halt", "do deque 40 9 shift")
	want, _, _ := script.Parse(text)
	for range 50 {
		wantParse(t, text, want)
		wantFault(t, wrong, 6, api.ErrScriptLine)
		wantFault(t, smallLine+"thread\nhalt", 2, api.ErrScriptLine)
		wantFault(t, "", 0, api.ErrScriptLine)
		wantFault(t, haltLines, 1, api.ErrScriptLine)
		wantPrint(t, plainOne(), smallLine+haltLines+"drain 0\n")
	}
}

// R1: whatever bytes a text has, it is read to its end.
func TestAnyBytes(t *testing.T) {
	rnd := rand.New(rand.NewSource(2305))
	pieces := []string{"config", "start", "thread", "end", "picks", "drain", "do", "bank", "set", " ", "\t", "\n", ";", ":", "0", "1", "-", "9", "\x00", "\xff", "é", "a"}
	for range 20000 {
		var b strings.Builder
		if rnd.Intn(2) == 0 {
			b.WriteString(smallLine)
		}
		for range rnd.Intn(30) {
			b.WriteString(pieces[rnd.Intn(len(pieces))])
		}
		text := b.String()
		s, line, e := script.Parse(text)
		want, wantLine, wantE := plainParse(text)
		if !same(s, want) || line != wantLine || e != wantE {
			t.Fatalf("Parse of %q: %v %d %v, want %v %d %v", text, s, line, e, want, wantLine, wantE)
		}
	}
}

// Many lines, deeds, remarks in one text: it ends in good time.
func TestTextsFullOfLines(t *testing.T) {
	fill := func(line string) string { return oneThread(strings.Repeat(line+"\n", (1<<20-100)/(len(line)+1))) }
	for _, line := range []string{"do deque 0 1 size", "do bank 0 1 sum", ";", "", "halt", "a:", "do", "thread"} {
		_, _, e := script.Parse(fill(line))
		if e == api.OK {
			t.Error(line)
		}
	}
}
