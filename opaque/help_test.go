package opaque_test

import (
	"math"
	"math/rand"
	"slices"
	"testing"

	"quash/api"
	"quash/opaque"
)

// Moves, and stories of them.

func reads(cell int, x int64) api.Move  { return api.Move{Cell: cell, X: x} }
func writes(cell int, x int64) api.Move { return api.Move{Cell: cell, X: x, Write: true} }

func commits(l ...api.Move) api.Story { return api.Story{Fate: api.Commits, Moves: l} }
func aborts(l ...api.Move) api.Story  { return api.Story{Fate: api.Aborts, Moves: l} }
func lives(l ...api.Move) api.Story   { return api.Story{Fate: api.Lives, Moves: l} }

// timed is a story that does nothing from one step to another.
func timed(begin, end int) api.Story { return api.Story{Begin: begin, End: end} }

// three are those of the document's examples.
func three() []api.Story {
	s1 := commits(api.Move{Step: 3, Gate: 2}, api.Move{Step: 4, Write: true, X: 1})
	s1.Begin, s1.End, s1.Gate = 1, 5, 3
	s2 := lives(api.Move{Step: 9, X: 1, Gate: 4})
	s2.Begin = 6
	s3 := aborts(api.Move{Step: 4, Gate: 2})
	s3.Begin, s3.End = 2, 8
	return []api.Story{s1, s2, s3}
}

// upTo has the numbers from 0 on, so many.
func upTo(many int) []int {
	l := make([]int, many)
	for i := range l {
		l[i] = i
	}
	return l
}

// edgeInts are those at which a comparison may go wrong.
func edgeInts() []int {
	return []int{math.MinInt, math.MinInt + 1, -1 << 32, -1<<32 + 1, -8, -2, -1, 0, 1, 2, 3, 1 << 32, 1<<32 + 1, math.MaxInt - 1, math.MaxInt}
}

func oneOf[T any](rnd *rand.Rand, l ...T) T { return l[rnd.Intn(len(l))] }

func anyInt(rnd *rand.Rand) int {
	return oneOf(rnd, oneOf(rnd, edgeInts()...), int(rnd.Uint64()), rnd.Intn(8), rnd.Intn(8))
}

// anyStory is any at all, also one that no events make, of few numbers: so that many are alike.
func anyStory(rnd *rand.Rand) api.Story {
	s := api.Story{
		Thread: rnd.Intn(9), Stamp: anyInt(rnd), Begin: rnd.Intn(6), End: rnd.Intn(9), Fate: rnd.Intn(3),
		E: api.Errno(anyInt(rnd)), By: rnd.Intn(9), Opens: rnd.Intn(3), Gate: rnd.Intn(3),
	}
	if rnd.Intn(6) == 0 {
		s.Begin, s.End, s.Fate, s.Opens, s.Gate = anyInt(rnd), anyInt(rnd), anyInt(rnd), anyInt(rnd), anyInt(rnd)
	}
	for range rnd.Intn(4) {
		m := api.Move{Step: rnd.Intn(6), Write: rnd.Intn(2) == 0, Cell: rnd.Intn(3), X: int64(rnd.Intn(2)), Own: rnd.Intn(3) == 0, Gate: rnd.Intn(3)}
		if rnd.Intn(8) == 0 {
			m.Step, m.Cell, m.X, m.Gate = anyInt(rnd), anyInt(rnd), int64(anyInt(rnd)), anyInt(rnd)
		}
		s.Moves = append(s.Moves, m)
	}
	return s
}

func anyStories(rnd *rand.Rand, many int) []api.Story {
	l := make([]api.Story, many)
	for i := range l {
		l[i] = anyStory(rnd)
	}
	return l
}

func anyStart(rnd *rand.Rand) []int64 {
	start := make([]int64, rnd.Intn(4))
	for i := range start {
		start[i] = int64(rnd.Intn(2))
	}
	return start
}

// lived are stories that came one behind the other, in an order in which each read what was there; their lives lie across each other, and their places in the list are any.
func lived(rnd *rand.Rand, start []int64, many int) ([]api.Story, []int) {
	l, order := make([]api.Story, many), rnd.Perm(many)
	cells := map[int]int64{}
	for cell, x := range start {
		cells[cell] = x
	}
	for at, place := range order {
		l[place] = oneLived(rnd, cells)
		point := 10 * (at + 1)
		l[place].Begin = point - rnd.Intn(25)
		if l[place].Fate != api.Lives || rnd.Intn(4) == 0 {
			l[place].End = max(1, point+rnd.Intn(25))
		}
	}
	return l, order
}

// oneLived reads what cells hold, and leaves there what it wrote, if it commits.
func oneLived(rnd *rand.Rand, cells map[int]int64) api.Story {
	s := api.Story{Fate: oneOf(rnd, api.Lives, api.Commits, api.Commits, api.Aborts, 3, -1)}
	own := map[int]int64{}
	for range rnd.Intn(7) {
		m := api.Move{Cell: oneOf(rnd, 0, 1, 2, 3, -1, 300, math.MinInt, math.MaxInt), Own: rnd.Intn(2) == 0, Gate: anyInt(rnd), Step: anyInt(rnd)}
		x, is := own[m.Cell]
		if !is {
			x = cells[m.Cell]
		}
		m.X = x
		if rnd.Intn(2) == 0 {
			m.Write, m.X = true, int64(rnd.Intn(3))
			own[m.Cell] = m.X
		}
		s.Moves = append(s.Moves, m)
	}
	if s.Fate == api.Commits {
		for cell, x := range own {
			cells[cell] = x
		}
	}
	return s
}

// A plain reading of the promises: everything is asked anew, of all that is there.

func plainChanges(s api.Story) bool {
	if s.Fate != 1 {
		return false
	}
	for _, m := range s.Moves {
		if m.Write {
			return true
		}
	}
	return false
}

func plainPoint(s api.Story) (int, int) {
	if plainChanges(s) {
		return s.Gate, s.End
	}
	for i := len(s.Moves) - 1; i >= 0; i-- {
		if m := s.Moves[i]; !m.Write && !m.Own {
			return m.Gate, m.Step
		}
	}
	return s.Opens, s.Begin
}

// plainAhead tells whether the story at place a comes ahead of that at place b by their points.
func plainAhead(l []api.Story, a, b int) bool {
	na, sa := plainPoint(l[a])
	nb, sb := plainPoint(l[b])
	ca, cb := plainChanges(l[a]), plainChanges(l[b])
	if na != nb {
		return na < nb
	}
	if ca != cb {
		return ca
	}
	if sa != sb {
		return sa < sb
	}
	return a < b
}

// plainOrder puts each story where as many are as come ahead of it.
func plainOrder(l []api.Story) []int {
	order := make([]int, len(l))
	for a := range l {
		ahead := 0
		for b := range l {
			if a != b && plainAhead(l, b, a) {
				ahead++
			}
		}
		order[ahead] = a
	}
	return order
}

func plainIsOrder(many int, order []int) bool {
	for place := range many {
		times := 0
		for _, o := range order {
			if o == place {
				times++
			}
		}
		if times != 1 {
			return false
		}
	}
	return len(order) == many
}

func plainEndsAhead(a, b api.Story) bool { return a.End != 0 && a.End < b.Begin }

func plainLate(l []api.Story, order []int, at int) bool {
	for _, ahead := range order[:at] {
		if plainEndsAhead(l[order[at]], l[ahead]) {
			return true
		}
	}
	return false
}

// plainLast is what the last write of a cell among those moves has written.
func plainLast(l []api.Move, cell int) (int64, bool) {
	for i := len(l) - 1; i >= 0; i-- {
		if l[i].Write && l[i].Cell == cell {
			return l[i].X, true
		}
	}
	return 0, false
}

// plainThere is what a read of a cell, ahead of which a story at a place in order has made those moves, must tell.
func plainThere(start []int64, l []api.Story, order []int, at int, ahead []api.Move, cell int) int64 {
	if x, is := plainLast(ahead, cell); is {
		return x
	}
	for i := at - 1; i >= 0; i-- {
		if s := l[order[i]]; s.Fate == 1 {
			if x, is := plainLast(s.Moves, cell); is {
				return x
			}
		}
	}
	if cell >= 0 && cell < len(start) {
		return start[cell]
	}
	return 0
}

func plainExplained(start []int64, l []api.Story, order []int, at int) bool {
	moves := l[order[at]].Moves
	for i, m := range moves {
		if !m.Write && m.X != plainThere(start, l, order, at, moves[:i], m.Cell) {
			return false
		}
	}
	return true
}

func plainCheck(start []int64, l []api.Story, order []int) (api.Errno, int) {
	if !plainIsOrder(len(l), order) {
		return api.ErrOpaqueOrder, 0
	}
	for at := range order {
		if plainLate(l, order, at) {
			return api.ErrOpaqueTime, at
		}
	}
	for at := range order {
		if !plainExplained(start, l, order, at) {
			return api.ErrOpaqueRead, at
		}
	}
	return api.OK, 0
}

// allOrders has all orders of so many, the least first.
func allOrders(many int) [][]int {
	all := [][]int{{}}
	for range many {
		var longer [][]int
		for _, order := range all {
			for place := range many {
				if !slices.Contains(order, place) {
					longer = append(longer, append(slices.Clone(order), place))
				}
			}
		}
		all = longer
	}
	slices.SortFunc(all, slices.Compare[[]int])
	return all
}

// plainSearch tries all orders, which are handed in.
func plainSearch(start []int64, l []api.Story, all [][]int) ([]int, bool) {
	for _, order := range all {
		if e, _ := plainCheck(start, l, order); e == api.OK {
			return order, true
		}
	}
	return nil, false
}

// What is wanted.

func wantOrder(t *testing.T, l []api.Story, want ...int) {
	t.Helper()
	if got := opaque.Order(l); !slices.Equal(got, want) {
		t.Error(l, "got", got, "want", want)
	}
}

func wantCheck(t *testing.T, start []int64, l []api.Story, order []int, e api.Errno, at int) {
	t.Helper()
	if ge, ga := opaque.Check(start, l, order); ge != e || ga != at {
		t.Error(start, l, order, "got", ge, ga, "want", e, at)
	}
}

// wantTaken says that the stories, in the order of the list, are taken.
func wantTaken(t *testing.T, start []int64, l ...api.Story) {
	t.Helper()
	wantCheck(t, start, l, upTo(len(l)), api.OK, 0)
}

// wantUnread says that the stories, in the order of the list, are not taken, by a read of that one.
func wantUnread(t *testing.T, at int, start []int64, l ...api.Story) {
	t.Helper()
	wantCheck(t, start, l, upTo(len(l)), api.ErrOpaqueRead, at)
}

func wantSearch(t *testing.T, start []int64, l []api.Story, want ...int) {
	t.Helper()
	if got, is, e := opaque.Search(start, l); !slices.Equal(got, want) || !is || e != api.OK {
		t.Error(start, l, "got", got, is, e, "want", want)
	}
}

func wantNone(t *testing.T, start []int64, l []api.Story, want api.Errno) {
	t.Helper()
	if got, is, e := opaque.Search(start, l); len(got) != 0 || is || e != want {
		t.Error(start, l, "got", got, is, e, "want none and", want)
	}
}

func notGreater(a, b []int) bool { return slices.Compare(a, b) <= 0 }
