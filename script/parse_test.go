package script_test

import (
	"fmt"
	"math"
	"strings"
	"testing"

	"quash/api"
)

// P23.3: lines

func TestParseOfEveryLine(t *testing.T) {
	s := plainOne()
	wantParse(t, smallLine+haltLines, s)
	wantParse(t, smallLine+"thread\nhalt\nend", s)
	wantParse(t, smallLine+haltLines+"drain 0", s)
	s.Config = api.Config{Cells: 11, Slots: 2, Bits: 33, Tag: 3, Bias: 5, Defer: 64}
	const head = "config 11 2 33 3 5 64\n"
	wantParse(t, head+haltLines, s)
	s.Drain = 65536
	wantParse(t, head+haltLines+"drain 65536", s)
	s.Start = []int64{math.MinInt64, -10, -1, 0, 7, 10, math.MaxInt64}
	const starts = head + "start -9223372036854775808 -10 -1 0 7 10 9223372036854775807\n"
	wantParse(t, starts+haltLines+"drain 65536", s)
	s.Picks = []int{math.MaxInt, 3, -1, 0, math.MinInt}
	wantParse(t, starts+haltLines+"picks 9223372036854775807 3 -1 0 -9223372036854775808\ndrain 65536", s)
	s.Programs = append(s.Programs, list(in(api.DoPush, -4), in(api.DoZero, 2)))
	wantParse(t, starts+haltLines+"thread\npush -4\nzero 2\nend\npicks 9223372036854775807 3 -1 0 -9223372036854775808\ndrain 65536", s)
	s.Programs[0], s.Programs[1] = s.Programs[1], s.Programs[0]
	s.Drain = 0
	wantParse(t, starts+"thread\npush -4\nzero 2\nend\n"+haltLines+"picks 9223372036854775807 3 -1 0 -9223372036854775808\n", s)
}

// The order of lines: one config, starts, threads, picks, a drain.
func TestOrderOfLines(t *testing.T) {
	parts := []string{"config 256 2 8 1 0 0\n", "start 5\n", "thread\nhalt\nend\n", "picks 7\n", "drain 9\n"}
	// Each line is followed by each other one, and by itself.
	for a, first := range parts {
		for b, second := range parts {
			text, last := first+second, 2
			if a == 2 {
				last = 4
			}
			if a > 0 { // nothing comes ahead of the config
				wantFault(t, text, 1, api.ErrScriptLine)
				text, last = parts[0]+text, last+1
			}
			switch {
			case b < a || b == a && (b == 0 || b == 4):
				wantFault(t, text, last, api.ErrScriptLine)
			case a != 2 && b != 2:
				wantFault(t, text, 0, api.ErrScriptThreads)
			default:
				s := plainOne()
				s.Programs = many(strings.Count(text, "thread"), s.Programs[0])
				s.Start = many(strings.Count(text, "start"), int64(5))
				s.Picks = many(strings.Count(text, "picks"), 7)
				s.Drain = 9 * strings.Count(text, "drain")
				wantParse(t, text, s)
			}
		}
	}
	wantFault(t, smallLine+haltLines+"picks 7\nthread\nhalt\nend", 6, api.ErrScriptLine)
	wantFault(t, smallLine+"picks 7\nstart 5", 3, api.ErrScriptLine)
	wantFault(t, smallLine+haltLines+"picks 1\ndrain 1\npicks 1", 7, api.ErrScriptLine)
	wantFault(t, smallLine+haltLines+"drain 1\n"+haltLines, 6, api.ErrScriptLine)
	wantFault(t, smallLine+haltLines+"drain 0\n\n\ndrain 0", 8, api.ErrScriptLine)
	wantFault(t, smallLine+haltLines+"start 1", 5, api.ErrScriptLine)
	wantFault(t, smallLine+"start 1\n"+smallLine, 3, api.ErrScriptLine)
	wantFault(t, smallLine+haltLines+smallLine, 5, api.ErrScriptLine)
}

func TestSeveralLinesAreAsOne(t *testing.T) {
	s := plainOne()
	s.Start, s.Picks = []int64{1, -2, 3, 4}, []int{5, 6, -7}
	wantParse(t, smallLine+"start 1 -2 3 4\n"+haltLines+"picks 5 6 -7\n", s)
	wantParse(t, smallLine+"start 1 -2\nstart 3\nstart 4\n"+haltLines+"picks 5\npicks 6 -7\n", s)
	wantParse(t, smallLine+"start 1\n\n; no more\nstart -2 3 4\n"+haltLines+"\npicks 5 6\n\n\npicks -7\n", s)
}

func TestBlanksAndRemarks(t *testing.T) {
	s := plainOne()
	s.Start, s.Picks, s.Drain = []int64{5, -6}, []int{1, 2}, 3
	wantParse(t, "\n\t \n;\n  ; config\n \tconfig\t256  2 8 \t 1 0 0\t;; 7\nstart   5\t\t-6;7\n"+
		";start 9\n  thread;\n\t;end\n\n halt ; halts\n\tend\t ; end\n\n picks 1\t2\n\t drain\t \t3;3", s)
}

func TestLinesThatSayNothing(t *testing.T) {
	s := plainOne()
	s.Start, s.Picks, s.Drain = []int64{5, -6}, []int{1, 2}, 3
	lines := []string{"config 256 2 8 1 0 0", "start 5 -6", "thread", "halt", "end", "picks 1 2", "drain 3"}
	wantParse(t, strings.Join(lines, "\n"), s)
	for _, empty := range []string{"", " ", "\t", " \t \t", ";", " ;", ";;", "; config 1 1 1 1 1 1", "\t;do bank", ";\r\x00\xff"} {
		for at := range len(lines) + 1 {
			with := append(append(append([]string{}, lines[:at]...), empty), lines[at:]...)
			wantParse(t, strings.Join(with, "\n"), s)
		}
		wantParse(t, empty+"\n"+strings.Join(lines, "\n"+empty+"\n")+"\n"+empty, s)
	}
	for i := range lines {
		for _, around := range []string{" %s", "\t%s", "%s ", "%s\t", " \t %s\t \t", "%s;", "%s ; end", "  %s;;end"} {
			with := append([]string{}, lines...)
			with[i] = fmt.Sprintf(around, lines[i])
			wantParse(t, strings.Join(with, "\n"), s)
		}
		with := append([]string{}, lines...)
		with[i] = strings.ReplaceAll(lines[i], " ", " \t\t  ")
		wantParse(t, strings.Join(with, "\n"), s)
	}
}

// Other white space than the two blanks is none, and other ends of lines than the byte 10 are none.
func TestOtherWhiteSpace(t *testing.T) {
	for _, c := range []string{"\r", "\v", "\f", "\x00", "\u00a0", "\u0085", "\u2028", "\xff", ",", "\""} {
		wantFault(t, c, 1, api.ErrScriptLine)
		wantFault(t, "config"+c+"256 2 8 1 0 0", 1, api.ErrScriptLine)
		wantFault(t, "config 256 2 8 1 0 0"+c, 1, api.ErrScriptLine)
		wantFault(t, c+"config 256 2 8 1 0 0", 1, api.ErrScriptLine)
		wantFault(t, "config 256 2 8 1"+c+"0 0", 1, api.ErrScriptLine)
		wantFault(t, smallLine+"thread"+c, 2, api.ErrScriptLine)
		wantFault(t, smallLine+"thread "+c, 2, api.ErrScriptLine)
		wantFault(t, smallLine+haltLines+"picks 1"+c+"\n", 5, api.ErrScriptLine)
		wantFault(t, smallLine+haltLines+"drain 1"+c+"\n", 5, api.ErrScriptLine)
		wantFault(t, smallLine+haltLines+c+"\n", 5, api.ErrScriptLine)
		wantFault(t, smallLine+"thread\nhalt\nend"+c+"\nend", 4, api.ErrCodeLine)
		wantFault(t, smallLine+"thread\ndo"+c+"\nend", 3, api.ErrCodeLine)
		wantFault(t, smallLine+"thread\ndo bank 0 2 sum"+c+"\nend", 3, api.ErrScriptLine)
		wantFault(t, smallLine+"thread\n"+c+"\nend", 3, api.ErrCodeLine)
	}
}

func TestWordsThatAreNone(t *testing.T) {
	for _, line := range []string{
		"x", "Config 256 2 8 1 0 0", "CONFIG", "conf", "configs 256 2 8 1 0 0", "config: 256 2 8 1 0 0", "starts 1", "threads", "Thread", "halt", "push 1", "a:",
		"do", "do bank 0 2 sum", "end", "end c", "end end", "ends", "pick 1", "drains 1", "0", "-", "1 2 3", "config256 2 8 1 0 0", "none", "script",
	} {
		wantFault(t, line, 1, api.ErrScriptLine)
		wantFault(t, smallLine+line, 2, api.ErrScriptLine)
		wantFault(t, smallLine+"start 5\n"+line, 3, api.ErrScriptLine)
		wantFault(t, smallLine+haltLines+line, 5, api.ErrScriptLine)
		wantFault(t, smallLine+haltLines+"picks 1\n\n"+line, 7, api.ErrScriptLine)
		wantFault(t, smallLine+haltLines+"drain 1\n"+line+"\n", 6, api.ErrScriptLine)
	}
}

func TestHowManyFieldsLinesHave(t *testing.T) {
	for n := range 12 {
		ones := strings.Repeat(" 1", n)
		if n != 6 {
			wantFault(t, "config"+ones, 1, api.ErrScriptLine)
		}
		if n != 1 {
			wantFault(t, smallLine+haltLines+"drain"+ones, 5, api.ErrScriptLine)
		}
		if n > 0 {
			wantFault(t, smallLine+"thread"+ones, 2, api.ErrScriptLine)
			wantFault(t, smallLine+"thread\nhalt\nend"+ones+"\nend", 4, api.ErrCodeLine)
			wantFault(t, smallLine+haltLines+"end"+ones, 5, api.ErrScriptLine)
			s := plainOne()
			s.Start, s.Picks = many(n, int64(1)), many(n, 1)
			wantParse(t, smallLine+"start"+ones+"\n"+haltLines+"picks"+ones, s)
		}
	}
	wantFault(t, smallLine+"start", 2, api.ErrScriptLine)
	wantFault(t, smallLine+"start ; 5", 2, api.ErrScriptLine)
	wantFault(t, smallLine+haltLines+"picks", 5, api.ErrScriptLine)
	wantFault(t, smallLine+haltLines+"picks;1", 5, api.ErrScriptLine)
	wantFault(t, smallLine+"thread x", 2, api.ErrScriptLine)
	wantFault(t, smallLine+"thread end", 2, api.ErrScriptLine)
}

func TestNumbersThatAreNone(t *testing.T) {
	for _, n := range []string{"", "-", "+1", "01", "00", "-0", "-01", "--1", "1-", "1.0", "1e3", "0x1", "0b1", "0o7", "1_000", "a", "1a", "9223372036854775808", "-9223372036854775809", "99999999999999999999", "\u0661", "\uff11", "1\r"} {
		for at := range 6 {
			fields := []string{"256", "2", "8", "1", "0", "0"}
			fields[at] = n
			wantFault(t, "config "+strings.Join(fields, " "), 1, api.ErrScriptLine)
		}
		wantFault(t, smallLine+haltLines+"drain "+n, 5, api.ErrScriptLine)
		if n == "" {
			continue
		}
		for _, line := range []string{"%s", "%s 1", "1 %s", "1 %s 1"} {
			wantFault(t, smallLine+"start "+fmt.Sprintf(line, n), 2, api.ErrScriptLine)
			wantFault(t, smallLine+haltLines+"picks "+fmt.Sprintf(line, n), 5, api.ErrScriptLine)
		}
	}
}

// P23.3: what a line may not say

func TestConfigsThatMayNotBe(t *testing.T) {
	for _, c := range []string{
		"0 2 8 1 0 0", "257 2 8 1 0 0", "-1 2 8 1 0 0", "4 0 8 1 0 0", "4 9 8 1 0 0", "4 2 0 1 0 0", "4 2 129 1 0 0", "4 2 8 0 0 0", "4 2 8 4 0 0", "4 2 8 1 -1 0", "4 2 8 1 9 0", "4 2 8 1 0 -1", "4 2 8 1 0 65",
		"9223372036854775807 2 8 1 0 0", "4 2 8 1 0 -9223372036854775808",
	} {
		wantFault(t, "config "+c, 1, api.ErrArg)
		wantFault(t, "\n;\nconfig "+c+"\nx", 3, api.ErrArg)
	}
	for _, c := range []api.Config{{Cells: 1, Slots: 1, Bits: 1, Tag: 1}, {Cells: 256, Slots: 8, Bits: 128, Tag: 3, Bias: 8, Defer: 64}} {
		s := plainOne()
		s.Config = c
		wantParse(t, fmt.Sprintln("config", c.Cells, c.Slots, c.Bits, c.Tag, c.Bias, c.Defer)+haltLines, s)
	}
}

func TestStartsThatAreTooMany(t *testing.T) {
	for _, cells := range []int{1, 2, 3, 255, 256} {
		head := fmt.Sprintln("config", cells, "1 8 1 0 0")
		s := plainOne()
		s.Config.Cells, s.Config.Slots = cells, 1
		s.Start = many(cells, int64(-7))
		wantParse(t, head+"start"+strings.Repeat(" -7", cells)+"\n"+haltLines, s)
		wantParse(t, head+strings.Repeat("start -7\n", cells)+haltLines, s)
		wantFault(t, head+"start"+strings.Repeat(" -7", cells+1)+"\n"+haltLines, 2, api.ErrScriptStart)
		wantFault(t, head+strings.Repeat("start -7\n", cells+1)+haltLines, cells+2, api.ErrScriptStart)
		wantFault(t, head+"start"+strings.Repeat(" -7", cells)+"\n\nstart 1 2", 4, api.ErrScriptStart)
		// A line that is none is said ahead of that.
		wantFault(t, head+"start"+strings.Repeat(" -7", cells+1)+" x\n", 2, api.ErrScriptLine)
		wantFault(t, head+"start"+strings.Repeat(" -7", cells+1)+"\nx", 2, api.ErrScriptStart)
	}
}

func TestThreadsThatAreTooMany(t *testing.T) {
	for n := 1; n <= 12; n++ {
		text := smallLine + strings.Repeat(haltLines, n)
		if n > 8 {
			wantFault(t, text, 26, api.ErrScriptThreads)
			continue
		}
		s := plainOne()
		s.Programs = many(n, s.Programs[0])
		wantParse(t, text, s)
	}
	eight := smallLine + strings.Repeat(haltLines, 8)
	wantFault(t, eight+"thread", 26, api.ErrScriptThreads)
	wantFault(t, eight+"thread x", 26, api.ErrScriptLine)
	wantFault(t, eight+"picks 1\nthread", 27, api.ErrScriptLine)
	wantFault(t, eight+"end", 26, api.ErrScriptLine)
	wantFault(t, eight+"\nthread\npush\nend", 27, api.ErrScriptThreads)
}

func TestPicksThatAreTooMany(t *testing.T) {
	text := smallLine + haltLines
	s := plainOne()
	s.Picks = many(65536, 3)
	wantParse(t, text+"picks"+strings.Repeat(" 3", 65536), s)
	wantParse(t, text+"picks"+strings.Repeat(" 3", 65535)+"\npicks 3", s)
	wantParse(t, text+strings.Repeat("picks 3\n", 65536), s)
	wantFault(t, text+"picks"+strings.Repeat(" 3", 65537), 5, api.ErrScriptPicks)
	wantFault(t, text+"picks"+strings.Repeat(" 3", 65536)+"\n\npicks 3", 7, api.ErrScriptPicks)
	wantFault(t, text+strings.Repeat("picks 3\n", 65537)+"x", 65541, api.ErrScriptPicks)
	wantFault(t, text+"picks"+strings.Repeat(" 3", 65537)+" x", 5, api.ErrScriptLine)
	wantFault(t, text+"picks"+strings.Repeat(" 3", 300000), 5, api.ErrScriptPicks)
}

func TestDrainsThatMayNotBe(t *testing.T) {
	text := smallLine + haltLines
	s := plainOne()
	for _, n := range []int{0, 1, 65535, 65536} {
		s.Drain = n
		wantParse(t, text+fmt.Sprint("drain ", n), s)
	}
	for _, n := range []int{-1, 65537, 1 << 32, 1<<32 + 5, math.MinInt, math.MaxInt} {
		wantFault(t, text+fmt.Sprint("\ndrain ", n, "\nx"), 6, api.ErrScriptPicks)
	}
}

// P23.3: what is amiss in no line

func TestNoConfigNoThread(t *testing.T) {
	for _, text := range []string{"", "\n", "\n\n\n", ";", " ; config 4 2 8 1 0 0\n\t"} {
		wantFault(t, text, 0, api.ErrScriptLine)
	}
	for _, text := range []string{"", "start 1\n", "picks 1\n", "drain 1\n", "start 1\npicks 1\ndrain 1", ";thread\n;halt\n;end"} {
		wantFault(t, smallLine+text, 0, api.ErrScriptThreads)
	}
}

func TestThreadsWithoutAnEnd(t *testing.T) {
	wantFault(t, smallLine+"thread", 2, api.ErrScriptLine)
	wantFault(t, smallLine+"thread\n", 2, api.ErrScriptLine)
	wantFault(t, smallLine+"thread\nhalt", 2, api.ErrScriptLine)
	wantFault(t, smallLine+"thread\nhalt\n;end", 2, api.ErrScriptLine)
	wantFault(t, smallLine+haltLines+"\n thread ; two\nhalt\n\n", 6, api.ErrScriptLine)
	// What is within a program belongs to it, and nobody asks what is wrong with that.
	wantFault(t, smallLine+"thread\npush\nx\ndo\nthread\npicks 1", 2, api.ErrScriptLine)
	wantFault(t, smallLine+"thread\nhalt\nthread\nhalt", 2, api.ErrScriptLine)
	wantFault(t, smallLine+"thread\nhalt\nconfig 4 2 8 1 0 0\nend x\n", 2, api.ErrScriptLine)
	wantFault(t, smallLine+haltLines+"thread\nhalt\nend x", 5, api.ErrScriptLine)
}

func TestLongTexts(t *testing.T) {
	wantFault(t, strings.Repeat(" ", 1<<20), 0, api.ErrScriptLine)
	wantFault(t, strings.Repeat(" ", 1<<20+1), 0, api.ErrScriptLong)
	wantFault(t, strings.Repeat("x", 1<<20), 1, api.ErrScriptLine)
	wantFault(t, strings.Repeat("x", 1<<20+1), 0, api.ErrScriptLong)
	wantFault(t, strings.Repeat("\n", 1<<20-1)+"x", 1<<20, api.ErrScriptLine)
	text := smallLine + haltLines
	wantParse(t, text+strings.Repeat("\n", 1<<20-len(text)), plainOne())
	wantParse(t, strings.Repeat(";", 1<<20-len(text)-1)+"\n"+text, plainOne())
	wantFault(t, strings.Repeat(";", 1<<20-len(text))+"\n"+text, 0, api.ErrScriptLong)
	wantFault(t, text+strings.Repeat("\n", 1<<20-len(text)+1), 0, api.ErrScriptLong)
}

// Of several errors the first line's is told, and of a line's the first one.
func TestParseTellsTheFirst(t *testing.T) {
	wantFault(t, "config 0 2 8 1 0 0\nx", 1, api.ErrArg)
	wantFault(t, "x\nconfig 0 2 8 1 0 0", 1, api.ErrScriptLine)
	wantFault(t, "config 0 2 8 1 0 x", 1, api.ErrScriptLine)
	wantFault(t, smallLine+"x\nthread", 2, api.ErrScriptLine)
	wantFault(t, smallLine+"thread\npush\nend\nx", 3, api.ErrCodeLine)
	wantFault(t, smallLine+haltLines+"drain 70000\nx", 5, api.ErrScriptPicks)
	wantFault(t, smallLine+"drain 70000", 2, api.ErrScriptPicks)
	wantFault(t, smallLine+haltLines+"thread\nhalt\nend x\nend\nx", 7, api.ErrCodeLine)
}

// The chapter's examples

func TestExamples(t *testing.T) {
	config := api.Config{Cells: 4, Slots: 2, Bits: 8, Tag: 1}
	s := api.Script{Config: config, Start: []int64{5, -1}, Programs: [][]api.Instr{deedCode(t, "bank", 0, 2, api.Deed{Op: api.BankSum})}, Picks: []int{0, 1}, Drain: 9}
	wantParse(t, "config 4 2 8 1 0 0\nstart 5 -1\nthread\ndo bank 0 2 sum\nend\npicks 0 1\ndrain 9", s)
	wantFault(t, "", 0, api.ErrScriptLine)
	wantFault(t, "start 1", 1, api.ErrScriptLine)
	wantFault(t, "config 4 2 8 1 0 0", 0, api.ErrScriptThreads)
	wantFault(t, "config 0 2 8 1 0 0", 1, api.ErrArg)
	const head = "config 1 1 8 1 0 0\n"
	wantFault(t, head+"start 1\nstart 2", 3, api.ErrScriptStart)
	wantFault(t, head+"thread\npush\nend", 3, api.ErrCodeLine)
	wantFault(t, head+"thread\nend", 3, api.ErrCodeLong)
	wantFault(t, head+"thread\nhalt", 2, api.ErrScriptLine)
	wantFault(t, head+"thread\ndo set 0 1\nend", 3, api.ErrScriptLine)
	wantFault(t, head+"thread\na:\ndo set 0 1 size\nend", 3, api.ErrCodeLong)
}
