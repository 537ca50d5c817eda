package script

import (
	"iter"
	"strconv"
	"strings"

	"quash/api"
)

// fault is why a text is given up, and in which line; 0: in none of its lines.
type fault struct {
	line int
	e    api.Errno
}

func giveUp(line int, e api.Errno) { panic(fault{line, e}) }

// numbered tells a text's lines, each with its number.
func numbered(text string) iter.Seq2[int, string] {
	return func(yield func(int, string) bool) {
		rest, more := text, true
		for line := 1; more; line++ {
			var raw string
			raw, rest, more = strings.Cut(rest, "\n")
			if !yield(line, raw) {
				return
			}
		}
	}
}

// fieldsOf has the fields of a line; none, if it says nothing. Blanks are two bytes alone: other white space is a part of a field.
func fieldsOf(raw string) []string {
	text, _, _ := strings.Cut(raw, ";")
	return strings.FieldsFunc(text, func(c rune) bool { return c == ' ' || c == '\t' })
}

// numbersOf reads numbers, each of which has to stand there just as it would be written.
func numbersOf(line int, fields []string) []int {
	numbers := make([]int, len(fields))
	for i, field := range fields {
		n, err := strconv.Atoi(field)
		if err != nil || strconv.Itoa(n) != field {
			giveUp(line, api.ErrScriptLine)
		}
		numbers[i] = n
	}
	return numbers
}
