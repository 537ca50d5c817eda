package code

import (
	"strconv"
	"strings"

	"quash/api"
)

// blanks are the bytes that part a word from its operand, and mean nothing at a line's ends.
const blanks = " \t"

// fault is why a text is given up, and in which line; 0: in none of its lines.
type fault struct {
	line int
	e    api.Errno
}

// draft is an instruction that was read; its place may be a label's that comes later.
type draft struct {
	line  int
	in    api.Instr
	label string // empty: the operand is that of in
}

// reader reads a text line by line.
type reader struct {
	rows   []row
	line   int            // the number of that which is read
	labels map[string]int // by names: the places
	drafts []draft
}

// Print writes a program.
func Print(l []api.Instr) (string, api.Errno) {
	rows := table()
	if e, _ := check(rows, l); e != api.OK {
		return "", e
	}
	var b strings.Builder
	for _, in := range l {
		b.WriteString(rows[in.Op].word)
		if rows[in.Op].takes != api.TakesNone {
			b.WriteString(" " + strconv.Itoa(in.A))
		}
		b.WriteString("\n")
	}
	return b.String(), api.OK
}

// Parse reads one.
func Parse(text string) (list []api.Instr, line int, e api.Errno) {
	defer func() {
		if f, gaveUp := recover().(fault); gaveUp {
			list, line, e = nil, f.line, f.e
		}
	}()
	return parse(text), 0, api.OK
}

func parse(text string) []api.Instr {
	if len(text) > api.MaxText {
		giveUp(0, api.ErrCodeLong)
	}
	r := &reader{rows: table(), labels: make(map[string]int)}
	for i, raw := range strings.Split(text, "\n") {
		r.line = i + 1
		r.take(said(raw))
	}
	list := r.program()
	if len(list) == 0 {
		giveUp(0, api.ErrCodeLong)
	}
	return list
}

func giveUp(line int, e api.Errno) { panic(fault{line, e}) }

// said is what a line says.
func said(raw string) string {
	text, _, _ := strings.Cut(raw, ";")
	return strings.Trim(text, blanks)
}

// take reads a line.
func (r *reader) take(text string) {
	if text == "" {
		return
	}
	if name, colon := strings.CutSuffix(text, ":"); colon {
		r.takeLabel(name)
		return
	}
	d := r.instruction(text)
	if len(r.drafts) == api.MaxCode {
		giveUp(r.line, api.ErrCodeLong)
	}
	r.drafts = append(r.drafts, d)
}

func (r *reader) takeLabel(name string) {
	if !isName(name) {
		giveUp(r.line, api.ErrCodeLine)
	}
	if _, twice := r.labels[name]; twice {
		giveUp(r.line, api.ErrCodeName)
	}
	if len(r.labels) == api.MaxCode {
		giveUp(r.line, api.ErrCodeLong)
	}
	r.labels[name] = len(r.drafts)
}

func isName(s string) bool {
	if len(s) < 1 || len(s) > api.MaxLabel || !isLetter(s[0]) {
		return false
	}
	for i := 1; i < len(s); i++ {
		if !isLetter(s[i]) && (s[i] < '0' || s[i] > '9') && s[i] != '-' {
			return false
		}
	}
	return true
}

func isLetter(b byte) bool { return b >= 'a' && b <= 'z' }

// instruction reads one, and gives up where it is none.
func (r *reader) instruction(text string) draft {
	word, rest := text, ""
	if i := strings.IndexAny(text, blanks); i >= 0 {
		word, rest = text[:i], strings.TrimLeft(text[i:], blanks)
	}
	op := r.op(word)
	d := draft{line: r.line, in: api.Instr{Op: op}}
	switch takes := r.rows[op].takes; {
	case takes == api.TakesNone:
		if rest != "" {
			giveUp(r.line, api.ErrCodeLine)
		}
	case takes == api.TakesPlace && isName(rest):
		d.label = rest
	default:
		d.in.A = r.number(rest)
		// Whether the place is above the end is asked when the end is known.
		if !mayBe(takes, d.in.A, d.in.A) {
			giveUp(r.line, api.ErrCodeLine)
		}
	}
	return d
}

// op is that of a word, which is never empty here, as the word of DoNone is.
func (r *reader) op(word string) api.Op {
	for op := range r.rows {
		if r.rows[op].word == word {
			return api.Op(op)
		}
	}
	giveUp(r.line, api.ErrCodeLine)
	return api.DoNone
}

// number reads a number, which has to stand there just as it would be written.
func (r *reader) number(s string) int {
	n, err := strconv.Atoi(s)
	if err != nil || strconv.Itoa(n) != s {
		giveUp(r.line, api.ErrCodeLine)
	}
	return n
}

// program has the places in the stead of labels.
func (r *reader) program() []api.Instr {
	list := make([]api.Instr, 0, len(r.drafts))
	for _, d := range r.drafts {
		in := d.in
		if d.label != "" {
			place, found := r.labels[d.label]
			if !found {
				giveUp(d.line, api.ErrCodeName)
			}
			in.A = place
		}
		if !mayBe(r.rows[in.Op].takes, in.A, len(r.drafts)) {
			giveUp(d.line, api.ErrCodeArg)
		}
		list = append(list, in)
	}
	return list
}
