package script_test

import (
	"math"
	"strings"
	"testing"

	"quash/api"
	"quash/script"
)

// P23.2

func TestPrintOfEveryLine(t *testing.T) {
	s := plainOne()
	wantPrint(t, s, smallLine+haltLines+"drain 0\n")
	s.Config = api.Config{Cells: 11, Slots: 2, Bits: 33, Tag: 3, Bias: 5, Defer: 64}
	wantPrint(t, s, "config 11 2 33 3 5 64\n"+haltLines+"drain 0\n")
	s.Start = []int64{0}
	wantPrint(t, s, "config 11 2 33 3 5 64\nstart 0\n"+haltLines+"drain 0\n")
	s.Start = []int64{math.MinInt64, -10, -1, 0, 7, 10, math.MaxInt64}
	const starts = "config 11 2 33 3 5 64\nstart -9223372036854775808 -10 -1 0 7 10 9223372036854775807\n"
	wantPrint(t, s, starts+haltLines+"drain 0\n")
	s.Programs = append(s.Programs, list(in(api.DoPush, -4), in(api.DoBegin, 0), in(api.DoZero, 3)))
	wantPrint(t, s, starts+haltLines+"thread\npush -4\nbegin\nzero 3\nend\ndrain 0\n")
	s.Programs[0], s.Programs[1] = s.Programs[1], s.Programs[0]
	wantPrint(t, s, starts+"thread\npush -4\nbegin\nzero 3\nend\n"+haltLines+"drain 0\n")
	s.Picks = []int{0}
	wantPrint(t, s, starts+"thread\npush -4\nbegin\nzero 3\nend\n"+haltLines+"picks 0\ndrain 0\n")
	s.Picks, s.Drain = []int{math.MaxInt, 3, -1, 0, math.MinInt}, 65536
	wantPrint(t, s, starts+"thread\npush -4\nbegin\nzero 3\nend\n"+haltLines+"picks 9223372036854775807 3 -1 0 -9223372036854775808\ndrain 65536\n")
}

func TestPrintOfManyThreads(t *testing.T) {
	s := plainOne()
	for n := 1; n <= 8; n++ {
		s.Programs = many(n, list(in(api.DoHalt, 0)))
		wantPrint(t, s, smallLine+strings.Repeat(haltLines, n)+"drain 0\n")
	}
	s.Programs = many(8, many(400, in(api.DoPush, math.MinInt)))
	wantPrint(t, s, smallLine+strings.Repeat("thread\n"+strings.Repeat("push -9223372036854775808\n", 400)+"end\n", 8)+"drain 0\n")
}

// What a script is refused for, and nothing else, is what Check says of it.
func TestPrintRefuses(t *testing.T) {
	for _, change := range []func(s *api.Script){
		func(s *api.Script) { *s = api.Script{} },
		func(s *api.Script) { s.Config.Bits = 129 },
		func(s *api.Script) { s.Start = make([]int64, 257) },
		func(s *api.Script) { s.Programs = nil },
		func(s *api.Script) { s.Programs = many(9, s.Programs[0]) },
		func(s *api.Script) { s.Programs[0] = nil },
		func(s *api.Script) { s.Programs[0] = list(in(api.DoPop, 1)) },
		func(s *api.Script) { s.Programs[0] = list(in(23, 0)) },
		func(s *api.Script) { s.Drain = -1 },
		func(s *api.Script) { s.Drain = 65537 },
		func(s *api.Script) { s.Picks = make([]int, 65537) },
		// Too many picks make too long a text, too: the first error is told.
		func(s *api.Script) { s.Picks = many(65537, math.MinInt) },
	} {
		s := plainOne()
		change(&s)
		e := script.Check(s)
		if e == api.OK {
			t.Error(s)
		}
		wantNoPrint(t, s, e)
	}
}

// wide is a script whose text has so many bytes, at least some hundred thousand.
func wide(t *testing.T, bytes int) (api.Script, string) {
	t.Helper()
	s := plainOne()
	const around = smallLine + haltLines + "picks\ndrain 0\n"
	left := bytes - len(around)
	var b strings.Builder
	for i := range 65536 {
		// Each pick has at most what is left for those that are to come, spread over them.
		digits := min(18, left/(65536-i)-1)
		n := int(math.Pow10(digits - 1))
		s.Picks = append(s.Picks, n)
		b.WriteString(" 1" + strings.Repeat("0", digits-1))
		left -= digits + 1
	}
	text := smallLine + haltLines + "picks" + b.String() + "\ndrain 0\n"
	if len(text) != bytes {
		t.Fatal(len(text), bytes)
	}
	return s, text
}

func TestPrintOfLongTexts(t *testing.T) {
	for _, bytes := range []int{500000, 1<<20 - 1, 1 << 20} {
		s, text := wide(t, bytes)
		wantPrint(t, s, text)
		wantParse(t, text, s)
	}
	for _, bytes := range []int{1<<20 + 1, 1<<20 + 2, 1200000} {
		s, text := wide(t, bytes)
		wantCheck(t, s, api.OK)
		wantNoPrint(t, s, api.ErrScriptLong)
		wantFault(t, text, 0, api.ErrScriptLong)
	}
	s := plainOne()
	s.Picks = many(65536, math.MinInt)
	wantCheck(t, s, api.OK)
	wantNoPrint(t, s, api.ErrScriptLong)
}
