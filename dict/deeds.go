package dict

import (
	"strconv"
	"strings"

	"quash/api"
)

// mayBe tells whether a deed is one of the kinds that there are, and has no field that is not its own.
func mayBe(d api.Deed) bool {
	own := api.Deed{Op: d.Op}
	switch d.Op {
	case api.DictPut, api.DictAdd:
		own.X, own.Y = d.X, d.Y
	case api.DictGet, api.DictDrop:
		own.X = d.X
	case api.DictSize:
	default:
		return false
	}
	return d == own
}

// done does a deed that may be to the values of keys, and is what it tells.
func done(values map[int64]int64, n int, d api.Deed) []int64 {
	x, there := values[d.X]
	switch {
	case d.Op == api.DictSize:
		return []int64{int64(len(values))}
	case d.Op == api.DictPut:
		return put(values, n, d)
	case !there:
		return []int64{0}
	case d.Op == api.DictDrop:
		delete(values, d.X)
		return []int64{1}
	case d.Op == api.DictAdd:
		x += d.Y
		values[d.X] = x
	}
	return []int64{1, x}
}

func put(values map[int64]int64, n int, d api.Deed) []int64 {
	_, there := values[d.X]
	if !there && len(values) == n {
		return []int64{2}
	}
	values[d.X] = d.Y
	if there {
		return []int64{0}
	}
	return []int64{1}
}

// textOf has the lines of a deed's program between the begin and the commit.
func textOf(op int) string {
	switch op {
	case api.DictPut:
		return findText + putText
	case api.DictGet:
		return findText + noneText + getText
	case api.DictDrop:
		return findText + noneText + dropText
	case api.DictAdd:
		return findText + noneText + addText
	}
	return sizeText
}

// fill puts numbers into a text, in the places of the words in capitals.
func fill(text string, base, n int, d api.Deed) string {
	first := base + stateAt(0)
	words := []struct {
		word   string
		number int
	}{
		{"SIZE", base + sizeAt},
		{"FIRST", first},
		{"HOME", base + stateAt(home(d.X, n))},
		{"ONWARD", placeCells - first},
		{"ROUND", placeCells * n},
		{"FREE", free},
		{"USED", used},
		{"GONE", gone},
		{"X", int(d.X)},
		{"Y", int(d.Y)},
	}
	for _, w := range words {
		text = strings.ReplaceAll(text, w.word, strconv.Itoa(w.number))
	}
	return text
}

// The way to X, from its home on, till a free place or home again. Behind it local 0 is the cell of the place's state, if X is there, and the program goes on at found; else it goes on at the next line, and local 1 is the cell of the state of the first place on the way that is not used; 0, if there is none: a dict's first cell is no state.
const findText = `
	push HOME
	set 0
	push 0
	set 1
look:
	get 0
	load
	dup
	set 2
	push USED
	same
	zero unused
	get 0
	push 1
	add
	load
	push X
	same
	zero next
	jump found
unused:
	get 1
	zero first
	jump kept
first:
	get 0
	set 1
kept:
	get 2
	push FREE
	same
	zero next
	jump none
next:
	get 0
	push ONWARD
	add
	push ROUND
	mod
	push FIRST
	add
	dup
	set 0
	push HOME
	same
	zero look
none:
`

const noneText = `
	push 0
	jump out
found:
`

const getText = `
	push 1
	tell
	get 0
	push 2
	add
	load
out:
	tell
`

// The place is not free then: other keys' ways may lead over it.
const dropText = `
	get 0
	push GONE
	store
	push SIZE
	push SIZE
	load
	push 1
	sub
	store
	push 1
out:
	tell
`

const addText = `
	push 1
	tell
	get 0
	push 2
	add
	dup
	load
	push Y
	add
	dup
	set 3
	store
	get 3
out:
	tell
`

const putText = `
	get 1
	zero full
	get 1
	push USED
	store
	get 1
	push 1
	add
	push X
	store
	get 1
	push 2
	add
	push Y
	store
	push SIZE
	push SIZE
	load
	push 1
	add
	store
	push 1
	jump out
full:
	push 2
	jump out
found:
	get 0
	push 2
	add
	push Y
	store
	push 0
out:
	tell
`

const sizeText = `
	push SIZE
	load
	tell
`
