package script_test

import (
	"regexp"
	"strconv"
	"strings"

	"quash/api"
	"quash/code"
	"quash/space"
)

// plainText is a text as the chapter tells it, gone through part by part.
type plainText struct {
	raw  []string
	says []string // without remarks, with one blank between fields
	at   int
}

const plainNumber = `(?:0|-?[1-9][0-9]*)`

var (
	remark     = regexp.MustCompile(`(?s);.*$`)
	someBlanks = regexp.MustCompile(`[ \t]+`)
	configLine = regexp.MustCompile(`^config( ` + plainNumber + `){6}$`)
	startLine  = regexp.MustCompile(`^start( ` + plainNumber + `)+$`)
	picksLine  = regexp.MustCompile(`^picks( ` + plainNumber + `)+$`)
	drainLine  = regexp.MustCompile(`^drain ` + plainNumber + `$`)
	deedLine   = regexp.MustCompile(`^do (bank|set|dict|deque) (` + plainNumber + `) (` + plainNumber + `) ([a-z]+)((?: ` + plainNumber + `)*)$`)
)

func newPlainText(text string) *plainText {
	p := &plainText{raw: strings.Split(text, "\n")}
	for _, raw := range p.raw {
		p.says = append(p.says, strings.Trim(someBlanks.ReplaceAllString(remark.ReplaceAllString(raw, ""), " "), " "))
	}
	p.skip()
	return p
}

func (p *plainText) skip() {
	for p.at < len(p.says) && p.says[p.at] == "" {
		p.at++
	}
}

func (p *plainText) atEnd() bool { return p.at == len(p.says) }

// has tells whether the line is of that form, and its numbers.
func (p *plainText) has(form *regexp.Regexp) ([]int, bool) {
	if p.atEnd() || !form.MatchString(p.says[p.at]) {
		return nil, false
	}
	return plainNumbers(strings.Split(p.says[p.at], " ")[1:])
}

func plainNumbers(fields []string) (numbers []int, ok bool) {
	for _, field := range fields {
		n, err := strconv.ParseInt(field, 10, 64)
		if err != nil {
			return nil, false
		}
		numbers = append(numbers, int(n))
	}
	return numbers, true
}

func (p *plainText) next() { p.at++; p.skip() }

func plainParse(text string) (api.Script, int, api.Errno) {
	if len(text) > 1048576 {
		return api.Script{}, 0, api.ErrScriptLong
	}
	p := newPlainText(text)
	if p.atEnd() {
		return api.Script{}, 0, api.ErrScriptLine
	}
	var s api.Script
	line, e := p.read(&s)
	if e != api.OK {
		return api.Script{}, line, e
	}
	return s, 0, api.OK
}

func (p *plainText) read(s *api.Script) (int, api.Errno) {
	n, ok := p.has(configLine)
	if !ok {
		return p.at + 1, api.ErrScriptLine
	}
	s.Config = api.Config{Cells: n[0], Slots: n[1], Bits: n[2], Tag: n[3], Bias: n[4], Defer: n[5]}
	if e := space.Check(s.Config); e != api.OK {
		return p.at + 1, e
	}
	p.next()
	for n, ok := p.has(startLine); ok; n, ok = p.has(startLine) {
		for _, x := range n {
			s.Start = append(s.Start, int64(x))
		}
		if len(s.Start) > s.Config.Cells {
			return p.at + 1, api.ErrScriptStart
		}
		p.next()
	}
	for !p.atEnd() && p.says[p.at] == "thread" {
		if len(s.Programs) == 8 {
			return p.at + 1, api.ErrScriptThreads
		}
		l, line, e := p.thread()
		if e != api.OK {
			return line, e
		}
		s.Programs = append(s.Programs, l)
	}
	for n, ok := p.has(picksLine); ok; n, ok = p.has(picksLine) {
		if s.Picks = append(s.Picks, n...); len(s.Picks) > 65536 {
			return p.at + 1, api.ErrScriptPicks
		}
		p.next()
	}
	if n, ok := p.has(drainLine); ok {
		if s.Drain = n[0]; s.Drain < 0 || s.Drain > 65536 {
			return p.at + 1, api.ErrScriptPicks
		}
		p.next()
	}
	if !p.atEnd() {
		return p.at + 1, api.ErrScriptLine
	}
	if len(s.Programs) == 0 {
		return 0, api.ErrScriptThreads
	}
	return 0, api.OK
}

// thread reads from that line to its end.
func (p *plainText) thread() ([]api.Instr, int, api.Errno) {
	from := p.at
	end := from + 1
	for end < len(p.says) && p.says[end] != "end" {
		end++
	}
	if end == len(p.says) {
		return nil, from + 1, api.ErrScriptLine
	}
	p.at = end
	p.next()
	var parts [][]api.Instr
	begin := from + 1
	for i := begin; i <= end; i++ {
		isDeed := p.says[i] == "do" || strings.HasPrefix(p.says[i], "do ")
		if !isDeed && i < end {
			continue
		}
		if strings.Join(p.says[begin:i], "") != "" {
			l, line, e := p.stretch(begin, i)
			if e != api.OK {
				return nil, line, e
			}
			parts = append(parts, l)
		}
		if begin = i + 1; isDeed {
			l, e := plainDeed(p.says[i])
			if e != api.OK {
				return nil, i + 1, e
			}
			parts = append(parts, l)
		}
	}
	l, e := code.Join(parts...)
	return l, end + 1, e
}

// stretch has as many empty lines ahead as there are lines in the text: so its lines keep their numbers.
func (p *plainText) stretch(from, to int) ([]api.Instr, int, api.Errno) {
	text := strings.Join(p.raw[from:to], "\n") + "\n"
	var line int
	l, _, e := code.Parse(text)
	if e != api.OK {
		_, line, e = code.Parse(strings.Repeat("\n", from) + text)
		for line == 0 && p.says[from] == "" {
			from++
		}
		if line == 0 {
			line = from + 1
		}
	}
	return l, line, e
}

// deedForms are the chapter's deeds, those of each structure by rising numbers of their Ops.
var deedForms = map[string][]string{
	"bank":  {"pay A X", "take A X", "move A B X", "see A", "sum"},
	"set":   {"put X", "drop X", "has X", "least", "size"},
	"dict":  {"put X Y", "get X", "drop X", "add X Y", "size"},
	"deque": {"push X", "shove X", "pop", "shift", "size"},
}

func plainDeed(says string) ([]api.Instr, api.Errno) {
	m := deedLine.FindStringSubmatch(says)
	if m == nil {
		return nil, api.ErrScriptLine
	}
	where, ok := plainNumbers(m[2:4])
	numbers, fits := plainNumbers(strings.Fields(m[5]))
	if !ok || !fits {
		return nil, api.ErrScriptLine
	}
	for i, form := range deedForms[m[1]] {
		words := strings.Fields(form)
		if words[0] != m[4] || len(words) != 1+len(numbers) {
			continue
		}
		field := map[string]int{}
		for at, letter := range words[1:] {
			field[letter] = numbers[at]
		}
		return codeOf(m[1], where[0], where[1], api.Deed{Op: i + 1, A: field["A"], B: field["B"], X: int64(field["X"]), Y: int64(field["Y"])})
	}
	return nil, api.ErrScriptLine
}
