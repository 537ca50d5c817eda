// Package mem is layer 1, cells that threads share, and how often they are touched: see shared/doc/01-mem.md.
package mem

import (
	"slices"

	"quash/api"
)

// Row is cells of one kind.
type Row[T comparable] struct {
	meter *Meter
	kind  int
	cells []T
}

// NewRow is so many cells, that hold nothing yet.
func NewRow[T comparable](m *Meter, kind, n int) (*Row[T], api.Errno) {
	if n < 1 || n > api.MaxRow {
		return nil, api.ErrArg
	}
	return &Row[T]{meter: m, kind: kind, cells: make([]T, n)}, api.OK
}

// Len is how many cells there are.
func (r *Row[T]) Len() int { return len(r.cells) }

// Load is what a cell holds.
func (r *Row[T]) Load(i int) (T, api.Errno) {
	if !r.has(i) {
		var none T
		return none, api.ErrPlace
	}
	r.meter.note(r.kind, i, api.OpLoad, true)
	return r.cells[i], api.OK
}

// Store lets a cell hold another thing.
func (r *Row[T]) Store(i int, x T) api.Errno {
	if !r.has(i) {
		return api.ErrPlace
	}
	r.meter.note(r.kind, i, api.OpStore, true)
	r.cells[i] = x
	return api.OK
}

// Trade lets a cell hold another thing, if it holds what is expected: what it held, and whether that was so.
func (r *Row[T]) Trade(i int, old, x T) (T, bool, api.Errno) {
	if !r.has(i) {
		var none T
		return none, false, api.ErrPlace
	}
	held := r.cells[i]
	done := same(held, old)
	r.meter.note(r.kind, i, api.OpTrade, done)
	if done {
		r.cells[i] = x
	}
	return held, done, api.OK
}

// Fill lets the first cells hold the things of l, without an access.
func (r *Row[T]) Fill(l []T) api.Errno {
	if len(l) > len(r.cells) {
		return api.ErrMany
	}
	copy(r.cells, l)
	return api.OK
}

// All is what the cells hold, without an access.
func (r *Row[T]) All() []T { return slices.Clone(r.cells) }

func (r *Row[T]) has(i int) bool { return i >= 0 && i < len(r.cells) }

// same compares as the language does. Interfaces are comparable too, and panic where what they hold is not (a list, say): no call may, so such things are never the same.
func same[T comparable](a, b T) (is bool) {
	defer func() {
		if recover() != nil {
			is = false
		}
	}()
	return a == b
}
