package deque

import (
	"slices"
	"strconv"
	"strings"

	"quash/api"
)

// mayBe tells whether a deed is one of the kinds that there are, and has no field that is not its own.
func mayBe(d api.Deed) bool {
	own := api.Deed{Op: d.Op}
	switch d.Op {
	case api.DequePush, api.DequeShove:
		own.X = d.X
	case api.DequePop, api.DequeShift, api.DequeSize:
	default:
		return false
	}
	return d == own
}

// done has the values behind a deed that may be, and what it tells. Deeds at the back say where that is, and then ask and do what those at the front do.
func done(l []int64, n int, d api.Deed) (after, told []int64) {
	at := 0
	switch d.Op {
	case api.DequePush:
		at = len(l)
		fallthrough
	case api.DequeShove:
		if len(l) == n {
			return slices.Clone(l), []int64{0}
		}
		return slices.Concat(l[:at], []int64{d.X}, l[at:]), []int64{1}
	case api.DequePop:
		at = len(l) - 1
		fallthrough
	case api.DequeShift:
		if len(l) == 0 {
			return nil, []int64{0}
		}
		return slices.Concat(l[:at], l[at+1:]), []int64{1, l[at]}
	}
	return slices.Clone(l), []int64{int64(len(l))}
}

// textOf has the lines of a deed's program between the begin and the commit.
func textOf(op int) string {
	switch op {
	case api.DequePush:
		return roomText + behindText + putText
	case api.DequeShove:
		return roomText + aheadText + putText
	case api.DequePop:
		return someText + backText + takeText
	case api.DequeShift:
		return someText + frontText + takeText
	}
	return sizeText
}

// fill puts numbers into a text, in the places of the words in capitals.
func fill(text string, base, n int, x int64) string {
	words := []struct {
		word   string
		number int
	}{
		{"FRONT", base + frontAt},
		{"SIZE", base + sizeAt},
		{"FIRST", base + firstAt},
		{"ROUND", n},
		{"X", int(x)},
	}
	for _, w := range words {
		text = strings.ReplaceAll(text, w.word, strconv.Itoa(w.number))
	}
	return text
}

// Is there room: it is told at once. Behind it local 0 is how many values there are.
const roomText = `
	push SIZE
	load
	dup
	set 0
	push ROUND
	less
	dup
	tell
	zero out
`

// Is there a value: it is told at once. Behind it local 0 is how many there are.
const someText = `
	push 0
	push SIZE
	load
	dup
	set 0
	less
	dup
	tell
	zero out
`

// The cell of the place behind the back lies on the stack then.
const behindText = `
	push FRONT
	load
	get 0
	add
	push ROUND
	mod
	push FIRST
	add
`

// The cell of the place ahead of the front, which is the front's from now on.
const aheadText = `
	push FRONT
	load
	push 1
	sub
	push ROUND
	mod
	set 1
	push FRONT
	get 1
	store
	push FIRST
	get 1
	add
`

// The cell of the back's place.
const backText = `
	push FRONT
	load
	get 0
	add
	push 1
	sub
	push ROUND
	mod
	push FIRST
	add
`

// The cell of the front's place; from now on the next one is the front's.
const frontText = `
	push FRONT
	load
	set 1
	push FRONT
	get 1
	push 1
	add
	push ROUND
	mod
	store
	push FIRST
	get 1
	add
`

const putText = `
	push X
	store
	push SIZE
	get 0
	push 1
	add
	store
out:
`

const takeText = `
	load
	tell
	push SIZE
	get 0
	push 1
	sub
	store
out:
`

const sizeText = `
	push SIZE
	load
	tell
`
