package opaque

import (
	"cmp"
	"slices"

	"quash/api"
	"quash/ghost"
)

// point is where a story stands in the order by points.
type point struct {
	number, step int
	changes      bool // whoever began while it held the gate has its number, and may have begun behind its end: it comes first
}

func pointOf(s api.Story) point {
	number, step := ghost.Point(s)
	return point{number: number, step: step, changes: changes(s)}
}

// changes tells whether a story commits, and has a write.
func changes(s api.Story) bool {
	return s.Fate == api.Commits && slices.ContainsFunc(s.Moves, func(m api.Move) bool { return m.Write })
}

func (p point) compare(o point) int {
	switch {
	case p.number != o.number:
		return cmp.Compare(p.number, o.number)
	case p.changes && !o.changes:
		return -1
	case o.changes && !p.changes:
		return 1
	}
	return cmp.Compare(p.step, o.step)
}
