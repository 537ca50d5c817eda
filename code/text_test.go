package code_test

import (
	"math"
	"math/rand"
	"slices"
	"strconv"
	"strings"
	"testing"

	"quash/api"
	"quash/code"
)

// P15.4

func TestPrintOfEveryInstruction(t *testing.T) {
	for _, r := range chapter() {
		numbers := []int{0}
		switch r.takes {
		case api.TakesNumber:
			numbers = []int{0, 1, -1, 9, 10, -10, 100, 1234567890, math.MaxInt, math.MinInt}
		case api.TakesLocal:
			numbers = []int{0, 1, 6, 7}
		case api.TakesPlace:
			numbers = []int{0, 1, 2}
		}
		for _, a := range numbers {
			want := r.word + "\n"
			if r.takes != api.TakesNone {
				want = r.word + " " + strconv.Itoa(a) + "\n"
			}
			if s, e := code.Print(list(in(r.op, a), in(api.DoHalt, 0))); s != want+"halt\n" || e != api.OK {
				t.Errorf("%q %v, want %q", s, e, want)
			}
			if a < 2 {
				if s, e := code.Print(list(in(r.op, a))); s != want || e != api.OK {
					t.Errorf("%q %v, want %q", s, e, want)
				}
			}
		}
	}
}

func TestPrintRefuses(t *testing.T) {
	for _, c := range []struct {
		l []api.Instr
		e api.Errno
	}{
		{nil, api.ErrCodeLong},
		{many(401, in(api.DoHalt, 0)), api.ErrCodeLong},
		{list(in(api.DoHalt, 0), in(0, 0)), api.ErrCodeOp},
		{list(in(api.DoHalt, 0), in(23, 0)), api.ErrCodeOp},
		{list(in(api.DoHalt, 0), in(api.DoGet, 8)), api.ErrCodeArg},
		{list(in(api.DoHalt, 0), in(api.DoJump, 3)), api.ErrCodeArg},
	} {
		if s, e := code.Print(c.l); s != "" || e != c.e {
			t.Error(len(c.l), s, e)
		}
	}
	if s, e := code.Print(many(400, in(api.DoSwap, 0))); s != strings.Repeat("swap\n", 400) || e != api.OK {
		t.Error(len(s), e)
	}
}

// P15.5

func TestParseOfEveryInstruction(t *testing.T) {
	for _, r := range chapter() {
		want := list(in(r.op, 0), in(api.DoHalt, 0))
		text := r.word
		if r.takes != api.TakesNone {
			wantFault(t, r.word, api.ErrCodeLine, 1)
			wantFault(t, r.word+" \t", api.ErrCodeLine, 1)
			wantFault(t, r.word+"0", api.ErrCodeLine, 1)
			wantFault(t, r.word+" 0 0", api.ErrCodeLine, 1)
			wantFault(t, r.word+" 0 a", api.ErrCodeLine, 1)
			text += " 0"
		} else {
			wantFault(t, r.word+" 0", api.ErrCodeLine, 1)
			wantFault(t, r.word+" a", api.ErrCodeLine, 1)
			wantFault(t, r.word+" "+r.word, api.ErrCodeLine, 1)
		}
		wantParse(t, text+"\nhalt", want)
		wantParse(t, " \t "+strings.ReplaceAll(text, " ", "\t  \t")+"\t \nhalt", want)
		wantParse(t, text+"; 5\nhalt", want)
		wantFault(t, strings.ToUpper(text)+"\nhalt", api.ErrCodeLine, 1)
		wantFault(t, "x"+text+"\nhalt", api.ErrCodeLine, 1)
		wantFault(t, r.word+"x"+strings.TrimPrefix(text, r.word)+"\nhalt", api.ErrCodeLine, 1)
		wantFault(t, text[1:]+"\nhalt", api.ErrCodeLine, 1)
	}
}

func TestParseOfNumbers(t *testing.T) {
	for _, a := range []int{0, 1, -1, 9, 10, -10, 7, 8, 100, -100, 1 << 32, math.MaxInt, math.MinInt} {
		wantParse(t, "push "+strconv.Itoa(a), list(in(api.DoPush, a)))
	}
	for _, s := range []string{"00", "01", "-0", "-01", "-00", "+1", "+0", "--1", "-", "- 1", "1-", "1.0", "1e3", "0x1", "0b1", "1_000", "a", "one", "１", "9223372036854775808", "-9223372036854775809", "18446744073709551616", "99999999999999999999999999", "1,2", "1\r", "\v1", "1\x00", "'1'"} {
		wantFault(t, "push "+s, api.ErrCodeLine, 1)
	}
	wantFault(t, "push "+strings.Repeat("9", 60000), api.ErrCodeLine, 1)
	wantFault(t, "push "+strings.Repeat("0", 60000)+"1", api.ErrCodeLine, 1)
}

func TestParseOfLocals(t *testing.T) {
	for _, op := range []api.Op{api.DoGet, api.DoSet} {
		for a := range 8 {
			wantParse(t, code.Name(op)+" "+strconv.Itoa(a), list(in(op, a)))
		}
		for _, s := range []string{"8", "9", "-1", "-0", "00", "07", "10", "+1", "a", "256", "9223372036854775808"} {
			wantFault(t, code.Name(op)+" "+s, api.ErrCodeLine, 1)
		}
	}
	// Of a local a label's name is none.
	wantFault(t, "a:\nget a", api.ErrCodeLine, 2)
	wantFault(t, "a:\npush a", api.ErrCodeLine, 2)
}

func TestParseOfPlaces(t *testing.T) {
	for _, op := range []api.Op{api.DoJump, api.DoZero, api.DoAbort} {
		word := code.Name(op)
		for a := range 13 {
			text := word + " " + strconv.Itoa(a) + strings.Repeat("\ndup", 11)
			wantParse(t, text, append(list(in(op, a)), many(11, in(api.DoDup, 0))...))
		}
		for _, s := range []string{"13", "20", "100", "1000", "4294967297", "9223372036854775807"} {
			wantFault(t, strings.Repeat("dup\n", 11)+word+" "+s, api.ErrCodeArg, 12)
		}
		for _, s := range []string{"-1", "-0", "00", "01", "+1", "9223372036854775808", "1a", "-a", "A", "aB", "a_", "a b", "a:", "é", "a\r", "abcdefghijklmnopq"} {
			wantFault(t, word+" "+s, api.ErrCodeLine, 1)
		}
		for _, s := range []string{"b", "abcdefghijklmnop", "a-", "a--0", "z9", word} {
			wantFault(t, "a:\n"+word+" "+s, api.ErrCodeName, 2)
			wantParse(t, "halt\n"+s+":\n"+word+" "+s, list(in(api.DoHalt, 0), in(op, 1)))
		}
	}
}

func TestParseOfNames(t *testing.T) {
	for _, name := range []string{"a", "z", "m", "abcdefghijklmnop", "a123456789012345", "a-", "a-b-c", "a0", "z9-", "push", "halt", "end"} {
		wantParse(t, "pop\n"+name+":\njump "+name, list(in(api.DoPop, 0), in(api.DoJump, 1)))
		wantParse(t, "pop\n \t"+name+":\t;\njump "+name, list(in(api.DoPop, 0), in(api.DoJump, 1)))
	}
	for _, name := range []string{"", "A", "0", "9a", "-", "-a", "aA", "a_b", "a.b", "a b", "a\tb", "é", "aé", "abcdefghijklmnopq", "a:", ":a", "a ", "a\t", "{", "`", "a{", "a`", "a/", "a\x00"} {
		wantFault(t, "pop\n"+name+":\npop", api.ErrCodeLine, 2)
	}
	wantFault(t, "a: pop", api.ErrCodeLine, 1)
	wantFault(t, "pop a:", api.ErrCodeLine, 1)
	wantFault(t, "a", api.ErrCodeLine, 1)
}

func TestParseOfWhatLabelsName(t *testing.T) {
	wantParse(t, lines("a:", "jump a", "b:", "jump b", "c:"), list(in(api.DoJump, 0), in(api.DoJump, 1)))
	wantParse(t, lines("jump c", "zero b", "b:", "c:", "abort a", "a:"), list(in(api.DoJump, 2), in(api.DoZero, 2), in(api.DoAbort, 3)))
	wantParse(t, lines("a:", "", ";", "b:", "pop", "jump b"), list(in(api.DoPop, 0), in(api.DoJump, 0)))
	// Labels that nobody goes to do no harm.
	wantParse(t, lines("a:", "b:", "halt", "c:", "d:"), list(in(api.DoHalt, 0)))
}

func TestParseOfLines(t *testing.T) {
	halt := list(in(api.DoHalt, 0))
	for _, text := range []string{"halt", "halt\n", "\nhalt\n\n", "\n\n\n halt", ";\nhalt\n;", "; jump b\nhalt", "halt;halt", "halt ; \xff\x00\r", " \t\n\t\nhalt", "halt;\n"} {
		wantParse(t, text, halt)
	}
	// What is cut off is cut off ahead of the blanks.
	wantParse(t, "push 5 \t ; 6", list(in(api.DoPush, 5)))
	wantParse(t, "push 5;6", list(in(api.DoPush, 5)))
	wantParse(t, "push 5 ; 6 ; 7", list(in(api.DoPush, 5)))
	wantFault(t, "push ; 5", api.ErrCodeLine, 1)
	wantFault(t, "pu;sh 5", api.ErrCodeLine, 1)
	wantFault(t, "a;:", api.ErrCodeLine, 1)
	// No other byte parts lines, and none other is a blank.
	for _, b := range []string{"\r", "\v", "\f", "\x00", "\xff", "\u00a0", "\u2028", "\u0085", "."} {
		wantFault(t, "halt"+b, api.ErrCodeLine, 1)
		wantFault(t, b+"halt", api.ErrCodeLine, 1)
		wantFault(t, "\n"+b, api.ErrCodeLine, 2)
		wantFault(t, "halt\n\npush"+b+"1", api.ErrCodeLine, 3)
		wantFault(t, "halt"+b+"halt", api.ErrCodeLine, 1)
	}
}

func TestParseTellsTheLine(t *testing.T) {
	for n := range 50 {
		ahead := strings.Repeat("\n", n%3) + strings.Repeat("halt\n", n)
		line := n%3 + n + 1
		wantFault(t, ahead+"x", api.ErrCodeLine, line)
		wantFault(t, ahead+"x\n\nx\n", api.ErrCodeLine, line)
		wantFault(t, ahead+"jump b\njump c", api.ErrCodeName, line)
		wantFault(t, ahead+"jump 1000\nhalt", api.ErrCodeArg, line)
		wantFault(t, "a:\n"+ahead+"a:\nhalt", api.ErrCodeName, line+1)
	}
}

func TestParseOfTooLongATextOrJustNot(t *testing.T) {
	fill := func(n int) string { return "halt;" + strings.Repeat("x", n-5) }
	wantParse(t, fill(65535), list(in(api.DoHalt, 0)))
	wantParse(t, fill(65536), list(in(api.DoHalt, 0)))
	wantFault(t, fill(65537), api.ErrCodeLong, 0)
	wantFault(t, fill(1000000), api.ErrCodeLong, 0)
	// That is said ahead of all else.
	wantFault(t, "x\n"+fill(65536), api.ErrCodeLong, 0)
	wantFault(t, strings.Repeat("a:\n", 65536), api.ErrCodeLong, 0)
	wantFault(t, strings.Repeat("\n", 65536), api.ErrCodeLong, 0)
	wantFault(t, strings.Repeat("\n", 65535)+"x", api.ErrCodeLine, 65536)
	wantParse(t, strings.Repeat("\n", 65532)+"halt", list(in(api.DoHalt, 0)))
}

func TestParseOfTooManyInstructions(t *testing.T) {
	most := strings.Repeat("dup\n", 400)
	wantParse(t, most, many(400, in(api.DoDup, 0)))
	wantParse(t, most+"a:\n", many(400, in(api.DoDup, 0)))
	wantFault(t, most+"dup", api.ErrCodeLong, 401)
	wantFault(t, most+"\n\na:\ndup\ndup", api.ErrCodeLong, 404)
	wantFault(t, "a:\n"+most+"jump b", api.ErrCodeLong, 402)
	wantFault(t, "jump b\n"+most, api.ErrCodeLong, 401)
	// Another fault of that line, or of one ahead of it, comes first.
	wantFault(t, most+"dup 1", api.ErrCodeLine, 401)
	wantFault(t, "x\n"+most+"dup", api.ErrCodeLine, 1)
	wantFault(t, most+"dup\nx", api.ErrCodeLong, 401)
	wantFault(t, "a:\n"+most+"a:\ndup", api.ErrCodeName, 402)
}

func TestParseOfTooManyLabels(t *testing.T) {
	var most strings.Builder
	for n := range 400 {
		most.WriteString("l" + strconv.Itoa(n) + ":\n")
	}
	wantParse(t, most.String()+"jump l399\nzero l0", list(in(api.DoJump, 0), in(api.DoZero, 0)))
	wantParse(t, "halt\n"+most.String(), list(in(api.DoHalt, 0)))
	wantFault(t, most.String(), api.ErrCodeLong, 0)
	wantFault(t, most.String()+"a:\nhalt", api.ErrCodeLong, 401)
	wantFault(t, most.String()+"halt\na:", api.ErrCodeLong, 402)
	wantFault(t, most.String()+"l7:\nhalt", api.ErrCodeName, 401)
	wantFault(t, most.String()+"L:\nhalt", api.ErrCodeLine, 401)
	wantFault(t, most.String()+strings.Repeat("dup\n", 400)+"x:\ndup", api.ErrCodeLong, 801)
	wantParse(t, most.String()+strings.Repeat("dup\n", 400), many(400, in(api.DoDup, 0)))
}

func TestParseTellsTheFirstFault(t *testing.T) {
	// Lines that are none, and names that are there twice, come ahead of places, wherever they stand.
	wantFault(t, "jump b\nx", api.ErrCodeLine, 2)
	wantFault(t, "jump 9\nx", api.ErrCodeLine, 2)
	wantFault(t, "jump b\na:\na:", api.ErrCodeName, 3)
	wantFault(t, "a:\na:\nx", api.ErrCodeName, 2)
	wantFault(t, "x\na:\na:", api.ErrCodeLine, 1)
	wantFault(t, "jump b\njump 9", api.ErrCodeName, 1)
	wantFault(t, "jump 9\njump b", api.ErrCodeArg, 1)
	wantFault(t, "jump a\njump 9\njump b\na:", api.ErrCodeArg, 2)
	wantFault(t, "jump a\njump b\njump 9\na:", api.ErrCodeName, 2)
	wantFault(t, "a:\na:\na:", api.ErrCodeName, 2)
}

func TestParseOfNoInstruction(t *testing.T) {
	for _, text := range []string{"", "\n", "\n\n", " ", "\t\n ", ";", "; halt", "a:", "a:\nb:\n", "a: ; halt"} {
		wantFault(t, text, api.ErrCodeLong, 0)
	}
	wantFault(t, "a:\nx", api.ErrCodeLine, 2)
	wantFault(t, "a:\na:", api.ErrCodeName, 2)
}

// pieces of which texts are put together.
func pieces() []string {
	return []string{
		"push", "pop", "dup", "get", "set", "jump", "zero", "abort", "commit", "halt", "begin", "tell", "load", "store",
		" ", " ", " ", "\t", "\n", "\n", "\n", "\n", ";", ":", ":\n", "a", "b", "a:\n", "b:\n", "jump a\n", "jump b\n", "zero a-b\n", "a-b:\n", "halt\n", "push 1\n", "get 7\n", "jump 0\n", "jump 2\n",
		"0", "1", "7", "8", "-", "-1", "+", "00", "A", "\r", "é", "\xff", "9223372036854775807", "9223372036854775808", "abcdefghijklmnop", "abcdefghijklmnopq",
	}
}

func wantPlainParse(t *testing.T, text string) api.Errno {
	t.Helper()
	l, n, e := plainParse(text)
	gotL, gotN, gotE := code.Parse(text)
	if !slices.Equal(gotL, l) || gotN != n || gotE != e {
		t.Fatalf("Parse of %q: %v %d %v, want %v %d %v", text, gotL, gotN, gotE, l, n, e)
	}
	return e
}

func TestParseIsThePlainOne(t *testing.T) {
	source := rand.New(rand.NewSource(3))
	all := pieces()
	answers := map[api.Errno]int{}
	for range 20000 {
		var b strings.Builder
		// Whole lines alone, or pieces of any kind.
		whole := source.Intn(2) == 0
		for range 1 + source.Intn(6) {
			p := all[source.Intn(len(all))]
			for whole && !strings.HasSuffix(p, "\n") {
				p = all[source.Intn(len(all))]
			}
			b.WriteString(p)
		}
		answers[wantPlainParse(t, b.String())]++
	}
	for _, e := range []api.Errno{api.OK, api.ErrCodeLine, api.ErrCodeName, api.ErrCodeArg, api.ErrCodeLong} {
		if answers[e] < 100 {
			t.Error("too little was read", answers)
		}
	}
}

func TestParseOfSpoiltProgramsIsThePlainOne(t *testing.T) {
	source := rand.New(rand.NewSource(4))
	const bytes = "abz:;- \t\n0178p+A\r"
	answers := map[api.Errno]int{}
	for _, l := range randomPrograms(3000) {
		text, _ := code.Print(l[:min(len(l), 1+source.Intn(8))])
		b := []byte(text)
		for range source.Intn(3) {
			if len(b) > 0 {
				b[source.Intn(len(b))] = bytes[source.Intn(len(bytes))]
			}
		}
		answers[wantPlainParse(t, string(b))]++
	}
	if answers[api.OK] < 100 || answers[api.ErrCodeLine] < 100 {
		t.Error("too little was read", answers)
	}
}

// P15.8

func TestParseOfWhatPrintWrites(t *testing.T) {
	for _, l := range randomPrograms(3000) {
		text, e := code.Print(l)
		if e != api.OK {
			t.Fatal(l, e)
		}
		wantParse(t, text, l)
	}
}

func TestCheckTakesWhatParseAnswers(t *testing.T) {
	source := rand.New(rand.NewSource(5))
	all := pieces()
	taken := 0
	for range 20000 {
		var b strings.Builder
		for range 1 + source.Intn(5) {
			b.WriteString(all[source.Intn(len(all))])
		}
		l, _, e := code.Parse(b.String())
		if e != api.OK {
			continue
		}
		taken++
		wantCheck(t, l, api.OK, 0)
		if again, _ := code.Print(l); again != "" {
			wantParse(t, again, l)
		}
	}
	if taken < 500 {
		t.Error("too little was taken", taken)
	}
}

// loose writes a program with lines that say nothing, blanks, and labels for some of its places.
func loose(source *rand.Rand, l []api.Instr) string {
	var b strings.Builder
	blank := func(least int) string {
		s := ""
		for len(s) < least || source.Intn(3) == 0 {
			s += string(" \t"[source.Intn(2)])
		}
		return s
	}
	idle := func() {
		for source.Intn(3) == 0 {
			b.WriteString(blank(0) + []string{"", ";", "; push 1", ";;x:"}[source.Intn(4)] + "\n")
		}
	}
	for place := 0; place <= len(l); place++ {
		idle()
		b.WriteString(blank(0) + "to-" + strconv.Itoa(place) + ":" + blank(0) + "\n")
		idle()
		if place == len(l) {
			break
		}
		i := l[place]
		b.WriteString(blank(0) + code.Name(i.Op))
		switch takes := code.Takes(i.Op); {
		case takes == api.TakesPlace && source.Intn(2) == 0:
			b.WriteString(blank(1) + "to-" + strconv.Itoa(i.A))
		case takes != api.TakesNone:
			b.WriteString(blank(1) + strconv.Itoa(i.A))
		}
		b.WriteString(blank(0) + []string{"", ";", "; 5", ";x:"}[source.Intn(4)] + "\n")
	}
	return b.String()
}

func TestParseOfLooseTexts(t *testing.T) {
	source := rand.New(rand.NewSource(6))
	for _, l := range randomPrograms(2000) {
		if len(l) < 400 { // one of 400 would have a label too many
			wantParse(t, loose(source, l), l)
		}
	}
}

func TestAFaultKeepsItsLineUnderLabels(t *testing.T) {
	wantFault(t, "a:\njump a\njump 1\nget 9", api.ErrCodeLine, 4)
	wantFault(t, "\n;\nhalt 1 ; x", api.ErrCodeLine, 3)
}

// The chapter's examples

func TestExamplesOfTheText(t *testing.T) {
	if s, e := code.Print(list(in(api.DoPush, -5), in(api.DoJump, 0))); s != "push -5\njump 0\n" || e != api.OK {
		t.Error(s, e)
	}
	wantParse(t, lines(" a:", "push 3 ; three", "", "jump a"), list(in(api.DoPush, 3), in(api.DoJump, 0)))
	for _, text := range []string{"push", "push 03", "push -0", "get 8", "pop 1", "A:", "jump -1"} {
		wantFault(t, text, api.ErrCodeLine, 1)
	}
	wantFault(t, "a:\na:", api.ErrCodeName, 2)
	wantFault(t, "jump b", api.ErrCodeName, 1)
	wantFault(t, "jump 2", api.ErrCodeArg, 1)
	wantFault(t, "", api.ErrCodeLong, 0)
	wantFault(t, "a:", api.ErrCodeLong, 0)
}
