package opaque

import (
	"maps"
	"slices"

	"quash/api"
	"quash/ghost"
)

// gist is all of a story that an order has to do with, its time aside.
type gist struct {
	broken bool       // it has not read what it had written itself: no order explains that
	asks   []api.Pair // what memory must have when it comes
	leaves []api.Pair // what memory has behind it
}

func gistOf(s api.Story) gist {
	var g gist
	own := map[int]int64{}
	for _, m := range s.Moves {
		x, written := own[m.Cell]
		switch {
		case m.Write:
			own[m.Cell] = m.X
		case !written:
			g.asks = append(g.asks, api.Pair{Cell: m.Cell, X: m.X})
		case x != m.X:
			g.broken = true
		}
	}
	if s.Fate == api.Commits {
		g.leaves = ghost.Writes(s)
	}
	return g
}

// memory is what cells hold behind the stories that have come.
type memory struct {
	start []int64
	over  map[int]int64 // what they have left, which hides start
}

func newMemory(start []int64) memory { return memory{start: start, over: map[int]int64{}} }

func (m memory) at(cell int) int64 {
	if x, hides := m.over[cell]; hides {
		return x
	}
	if cell >= 0 && cell < len(m.start) {
		return m.start[cell]
	}
	return 0
}

// explains tells whether a story that comes next has read what is there.
func (m memory) explains(g gist) bool {
	other := func(p api.Pair) bool { return m.at(p.Cell) != p.X }
	return !g.broken && !slices.ContainsFunc(g.asks, other)
}

func (m memory) put(g gist) {
	for _, p := range g.leaves {
		m.over[p.Cell] = p.X
	}
}

// behind is the memory that a story leaves; the one that it came to stays as it is, for others to be tried there.
func (m memory) behind(g gist) memory {
	if len(g.leaves) == 0 {
		return m
	}
	next := memory{start: m.start, over: maps.Clone(m.over)}
	next.put(g)
	return next
}
