package set

import (
	"slices"
	"strconv"
	"strings"

	"quash/api"
)

// mayBe tells whether a deed is one of the kinds that there are, and has no field that is not its own.
func mayBe(d api.Deed) bool {
	own := api.Deed{Op: d.Op}
	switch d.Op {
	case api.SetPut, api.SetDrop, api.SetHas:
		own.X = d.X
	case api.SetLeast, api.SetSize:
	default:
		return false
	}
	return d == own
}

// done is what a deed that may be leaves of the keys, which it may write over, and what it tells.
func done(l []int64, n int, d api.Deed) (after, told []int64) {
	switch d.Op {
	case api.SetPut:
		return put(l, n, d.X)
	case api.SetDrop:
		return drop(l, d.X)
	case api.SetHas:
		if _, there := slices.BinarySearch(l, d.X); !there {
			return l, []int64{0}
		}
		return l, []int64{1}
	case api.SetLeast:
		if len(l) == 0 {
			return l, []int64{0}
		}
		return l, []int64{1, l[0]}
	}
	return l, []int64{int64(len(l))}
}

func put(l []int64, n int, x int64) (after, told []int64) {
	at, there := slices.BinarySearch(l, x)
	switch {
	case there:
		return l, []int64{0}
	case len(l) == n:
		return l, []int64{2}
	}
	return slices.Insert(l, at, x), []int64{1}
}

func drop(l []int64, x int64) (after, told []int64) {
	at, there := slices.BinarySearch(l, x)
	if !there {
		return l, []int64{0}
	}
	return slices.Delete(l, at, at+1), []int64{1}
}

// textOf has the lines of a deed's program between the begin and the commit.
func textOf(op int) string {
	switch op {
	case api.SetPut:
		return findText + putText
	case api.SetDrop:
		return findText + dropText
	case api.SetHas:
		return findText + hasText
	case api.SetLeast:
		return leastText
	}
	return sizeText
}

// fill puts numbers into a text, in the places of the words in capitals.
func fill(text string, base int, x int64) string {
	words := []struct {
		word   string
		number int
	}{
		{"HEAD", base + headAt},
		{"FREE", base + freeAt},
		{"SIZE", base + sizeAt},
		{"NODE0", base + keyAt(0)}, // a node's key stands twice its number behind it
		{"X", int(x)},
	}
	for _, w := range words {
		text = strings.ReplaceAll(text, w.word, strconv.Itoa(w.number))
	}
	return text
}

// The way to X. Behind it local 0 is the cell of the head or link behind which X stands, or would; local 1 what that cell leads to; local 2, if that is a node, the cell of its key; and on the stack lies 1, if that key is X, else 0.
const findText = `
	push HEAD
	set 0
find:
	get 0
	load
	dup
	set 1
	zero found-end
	get 1
	push 2
	mul
	push NODE0
	add
	dup
	set 2
	load
	push X
	less
	zero found-node
	get 2
	push 1
	add
	set 0
	jump find
found-node:
	get 2
	load
	push X
	same
	jump found
found-end:
	push 0
found:
`

const hasText = `
	tell
`

// The node goes over from the list to the front of the free list.
const dropText = `
	dup
	tell
	zero out
	get 0
	get 2
	push 1
	add
	load
	store
	get 2
	push 1
	add
	push FREE
	load
	store
	push FREE
	get 1
	store
	push SIZE
	push SIZE
	load
	push 1
	sub
	store
out:
`

// The first node of the free list goes over to where X belongs: local 3 is that node, local 4 the cell of its key.
const putText = `
	not
	zero there
	push FREE
	load
	dup
	set 3
	zero full
	get 3
	push 2
	mul
	push NODE0
	add
	dup
	set 4
	push X
	store
	push FREE
	get 4
	push 1
	add
	load
	store
	get 4
	push 1
	add
	get 1
	store
	get 0
	get 3
	store
	push SIZE
	push SIZE
	load
	push 1
	add
	store
	push 1
	jump out
there:
	push 0
	jump out
full:
	push 2
out:
	tell
`

const leastText = `
	push HEAD
	load
	dup
	set 0
	zero none
	push 1
	tell
	get 0
	push 2
	mul
	push NODE0
	add
	load
	jump out
none:
	push 0
out:
	tell
`

const sizeText = `
	push SIZE
	load
	tell
`
