package opaque_test

import (
	"math"
	"math/rand"
	"slices"
	"testing"

	"quash/api"
)

// P22.2

func TestCheckOfTheExample(t *testing.T) {
	l := three()
	wantCheck(t, nil, l, []int{2, 0, 1}, api.OK, 0)
	wantCheck(t, nil, l, []int{0, 2, 1}, api.ErrOpaqueRead, 1)
	wantCheck(t, nil, l, []int{1, 0, 2}, api.ErrOpaqueTime, 1)
	wantCheck(t, nil, l, []int{0, 1}, api.ErrOpaqueOrder, 0)
	wantCheck(t, nil, nil, nil, api.OK, 0)
	wantCheck(t, []int64{1}, []api.Story{}, []int{}, api.OK, 0)
}

// An order has each place just once: none more, none less, none twice.
func TestCheckOfNoOrder(t *testing.T) {
	l := make([]api.Story, 3)
	for _, order := range allOrders(3) {
		wantCheck(t, nil, l, order, api.OK, 0)
		for at := range order {
			for _, n := range append(edgeInts(), 4, 256) {
				other := slices.Clone(order)
				other[at] = n
				if n != order[at] {
					wantCheck(t, nil, l, other, api.ErrOpaqueOrder, 0)
				}
				wantCheck(t, nil, l, slices.Insert(slices.Clone(order), at, n), api.ErrOpaqueOrder, 0)
			}
			wantCheck(t, nil, l, slices.Delete(slices.Clone(order), at, at+1), api.ErrOpaqueOrder, 0)
		}
	}
	wantCheck(t, nil, l, nil, api.ErrOpaqueOrder, 0)
	wantCheck(t, nil, nil, []int{0}, api.ErrOpaqueOrder, 0)
	wantCheck(t, nil, l, []int{0, 1, 2, 0, 1, 2}, api.ErrOpaqueOrder, 0)
}

// No order is told ahead of all else, against the time ahead of a read, wherever these are.
func TestCheckTellsTheFirstKind(t *testing.T) {
	bad := lives(reads(0, 9))
	bad.Begin = 5
	early := timed(1, 2)
	l := []api.Story{bad, bad, early}
	wantCheck(t, nil, l, []int{0, 1}, api.ErrOpaqueOrder, 0)
	wantCheck(t, nil, l, []int{0, 1, 1}, api.ErrOpaqueOrder, 0)
	wantCheck(t, nil, l, []int{0, 1, 2}, api.ErrOpaqueTime, 2)
	wantCheck(t, nil, l, []int{2, 0, 1}, api.ErrOpaqueRead, 1)
	wantCheck(t, nil, l, []int{2, 1, 0}, api.ErrOpaqueRead, 1)
}

// The place is that in the order, not that in the list, and the least one.
func TestCheckTellsTheLeastPlace(t *testing.T) {
	l := []api.Story{timed(1, 2), timed(3, 4), timed(5, 6), timed(7, 8)}
	wantCheck(t, nil, l, []int{0, 1, 2, 3}, api.OK, 0)
	wantCheck(t, nil, l, []int{3, 2, 1, 0}, api.ErrOpaqueTime, 1)
	wantCheck(t, nil, l, []int{0, 1, 3, 2}, api.ErrOpaqueTime, 3)
	wantCheck(t, nil, l, []int{0, 2, 1, 3}, api.ErrOpaqueTime, 2)
	good, bad := lives(reads(0, 0)), lives(reads(0, 1))
	l = []api.Story{bad, good, bad, good}
	wantCheck(t, nil, l, []int{1, 3, 2, 0}, api.ErrOpaqueRead, 2)
	wantCheck(t, nil, l, []int{3, 1, 0, 2}, api.ErrOpaqueRead, 2)
	wantCheck(t, nil, l, []int{3, 0, 2, 1}, api.ErrOpaqueRead, 1)
	wantCheck(t, nil, l, []int{0, 1, 2, 3}, api.ErrOpaqueRead, 0)
}

// Who has no end ends ahead of nobody; who ends in the step in which another one begins does not end ahead of it.
func TestCheckOfTimes(t *testing.T) {
	for _, end := range edgeInts() {
		for _, begin := range edgeInts() {
			l := []api.Story{timed(begin, math.MaxInt), timed(math.MinInt, end)}
			if end != 0 && end < begin {
				wantCheck(t, nil, l, []int{0, 1}, api.ErrOpaqueTime, 1)
			} else {
				wantCheck(t, nil, l, []int{0, 1}, api.OK, 0)
			}
			wantTaken(t, nil, timed(begin, end)) // none ends ahead of itself
		}
	}
}

// All that stand ahead count, not the neighbour alone, nor the last one that ends.
func TestCheckOfTimesAmongMany(t *testing.T) {
	l := []api.Story{timed(9, 0), timed(1, 0), timed(2, 20), timed(3, 8)}
	wantCheck(t, nil, l, []int{0, 1, 2, 3}, api.ErrOpaqueTime, 3)
	wantCheck(t, nil, l, []int{1, 0, 2, 3}, api.ErrOpaqueTime, 3)
	wantCheck(t, nil, l, []int{1, 2, 0, 3}, api.ErrOpaqueTime, 3)
	wantCheck(t, nil, l, []int{1, 2, 3, 0}, api.OK, 0)
	wantCheck(t, nil, l, []int{3, 0, 1, 2}, api.OK, 0)
}

// A fate says nothing of the time: an end does.
func TestCheckOfTimesOfFates(t *testing.T) {
	for _, fate := range edgeInts() {
		early, late := timed(1, 2), timed(3, 0)
		early.Fate, late.Fate = fate, fate
		wantCheck(t, nil, []api.Story{early, late}, []int{1, 0}, api.ErrOpaqueTime, 1)
		wantCheck(t, nil, []api.Story{early, late}, []int{0, 1}, api.OK, 0)
	}
}

// What start does not have holds 0, whatever the cell's number.
func TestCheckOfStart(t *testing.T) {
	start := []int64{5, -6, math.MinInt64}
	wantTaken(t, start, lives(reads(0, 5), reads(1, -6), reads(2, math.MinInt64), reads(0, 5)))
	wantUnread(t, 0, start, lives(reads(0, 5), reads(1, -6), reads(2, 0)))
	wantUnread(t, 0, start, lives(reads(0, 0)))
	wantUnread(t, 0, nil, lives(reads(0, 5)))
	for _, cell := range append(edgeInts(), 256, 1000) {
		if cell < 0 || cell > 2 {
			wantTaken(t, start, lives(reads(cell, 0)))
			wantUnread(t, 0, start, lives(reads(cell, 5)))
			wantTaken(t, start, commits(reads(cell, 0), writes(cell, 7)), lives(reads(cell, 7), reads(0, 5)))
		}
	}
}

// Each value that is not just the one that is there is another one.
func TestCheckOfValues(t *testing.T) {
	for _, x := range edgeInts() {
		for _, y := range edgeInts() {
			start, wrote := []int64{int64(x)}, commits(writes(0, int64(x)))
			if x == y {
				wantTaken(t, start, lives(reads(0, int64(y))))
				wantTaken(t, nil, wrote, lives(reads(0, int64(y))))
				wantTaken(t, nil, lives(writes(0, int64(x)), reads(0, int64(y))))
			} else {
				wantUnread(t, 0, start, lives(reads(0, int64(y))))
				wantUnread(t, 1, nil, wrote, lives(reads(0, int64(y))))
				wantUnread(t, 0, nil, lives(writes(0, int64(x)), reads(0, int64(y))))
			}
		}
	}
}

// Of those that commit what they wrote last stays, till another one writes the cell, 0 too; of others nothing.
func TestCheckOfWhatIsLeft(t *testing.T) {
	start := []int64{4, 5}
	wantTaken(t, start, commits(writes(0, 7), writes(0, 8)), lives(reads(0, 8), reads(1, 5)))
	wantUnread(t, 1, start, commits(writes(0, 7), writes(0, 8)), lives(reads(0, 7)))
	wantTaken(t, start, commits(writes(0, 7)), commits(writes(1, 9)), commits(writes(0, 0)), lives(reads(0, 0), reads(1, 9)))
	wantUnread(t, 3, start, commits(writes(0, 7)), commits(writes(1, 9)), commits(writes(0, 0)), lives(reads(0, 4)))
	for _, fate := range edgeInts() {
		s := api.Story{Fate: fate, Moves: []api.Move{writes(0, 7)}}
		if fate == api.Commits {
			wantTaken(t, start, s, lives(reads(0, 7)))
			wantUnread(t, 1, start, s, lives(reads(0, 4)))
		} else {
			wantTaken(t, start, s, lives(reads(0, 4)))
			wantUnread(t, 1, start, s, lives(reads(0, 7)))
		}
	}
}

// Who stands behind leaves nothing ahead.
func TestCheckOfWhatComesLater(t *testing.T) {
	l := []api.Story{lives(reads(0, 0)), commits(writes(0, 1)), aborts(reads(0, 1))}
	wantCheck(t, nil, l, []int{0, 1, 2}, api.OK, 0)
	wantCheck(t, nil, l, []int{1, 0, 2}, api.ErrOpaqueRead, 1)
	wantCheck(t, nil, l, []int{2, 0, 1}, api.ErrOpaqueRead, 0)
	wantCheck(t, nil, l, []int{0, 2, 1}, api.ErrOpaqueRead, 1)
}

// What a story has written itself, ahead of a read, is what that tells, whatever becomes of the story; what it writes behind it does not count.
func TestCheckOfOwnWrites(t *testing.T) {
	start := []int64{4}
	for _, fate := range edgeInts() {
		of := func(l ...api.Move) api.Story { return api.Story{Fate: fate, Moves: l} }
		wantTaken(t, start, of(reads(0, 4), writes(0, 7), reads(0, 7), writes(0, 8), writes(1, 3), reads(0, 8), reads(1, 3)))
		wantUnread(t, 0, start, of(reads(0, 7), writes(0, 7)))
		wantUnread(t, 0, start, of(writes(0, 7), reads(0, 4)))
		wantUnread(t, 0, start, of(writes(0, 7), writes(0, 8), reads(0, 7)))
		wantUnread(t, 0, start, of(writes(0, 7), reads(0, 4), writes(0, 4)))
		wantUnread(t, 0, start, of(writes(0, 0), reads(0, 4)))
		wantTaken(t, start, of(writes(0, 0), reads(0, 0)))
		wantTaken(t, start, of(writes(1, 7), reads(0, 4)))
	}
	wantTaken(t, start, commits(writes(0, 9)), lives(reads(0, 9), writes(0, 7), reads(0, 7)))
	wantUnread(t, 1, start, commits(writes(0, 9)), lives(writes(0, 7), reads(0, 9)))
}

// Each read must be explained, not the first or the last one alone, and of one cell each again.
func TestCheckOfEachRead(t *testing.T) {
	for bad := range 5 {
		l := []api.Move{reads(0, 4), reads(1, 5), reads(0, 4), reads(2, 0), reads(1, 5)}
		wantTaken(t, []int64{4, 5}, aborts(l...))
		l[bad].X++
		wantUnread(t, 0, []int64{4, 5}, aborts(l...))
	}
}

// Own and Gate, and the steps of moves, are not looked at.
func TestCheckLooksAtNoMarks(t *testing.T) {
	start := []int64{4}
	for _, n := range edgeInts() {
		for _, own := range []bool{false, true} {
			marked := func(m api.Move) api.Move { m.Own, m.Gate, m.Step = own, n, n; return m }
			wantTaken(t, start, lives(marked(reads(0, 4))))
			wantUnread(t, 0, start, lives(marked(reads(0, 5))))
			wantTaken(t, start, lives(marked(writes(0, 5)), marked(reads(0, 5))))
			wantUnread(t, 0, start, lives(marked(writes(0, 5)), marked(reads(0, 4))))
			wantTaken(t, start, commits(marked(writes(0, 5))), lives(marked(reads(0, 5))))
		}
		s := commits(writes(0, 5))
		s.Thread, s.Stamp, s.E, s.By, s.Opens, s.Gate = n, n, api.Errno(n), n, n, n
		wantTaken(t, start, s, lives(reads(0, 5)))
	}
}

// Any stories in any orders, right and spoilt, against a plain reading.
func TestCheckOfAnyStories(t *testing.T) {
	rnd := rand.New(rand.NewSource(222))
	times := map[api.Errno]int{}
	for range 60000 {
		start := anyStart(rnd)
		l, order := lived(rnd, start, rnd.Intn(9))
		switch rnd.Intn(5) {
		case 0:
			order = rnd.Perm(len(l))
		case 1:
			l = anyStories(rnd, rnd.Intn(4))
			order = rnd.Perm(len(l))
		case 2:
			spoil(rnd, l)
		case 3:
			if len(order) > 0 {
				order[rnd.Intn(len(order))] = rnd.Intn(len(l)+2) - 1
			}
		}
		e, at := plainCheck(start, l, order)
		wantCheck(t, start, l, order, e, at)
		times[e]++
	}
	if times[api.OK] < 10000 || times[api.ErrOpaqueOrder] < 3000 || times[api.ErrOpaqueTime] < 3000 || times[api.ErrOpaqueRead] < 3000 {
		t.Error("too little was tried", times)
	}
}

// spoil changes one thing of one story.
func spoil(rnd *rand.Rand, l []api.Story) {
	if len(l) == 0 {
		return
	}
	s := &l[rnd.Intn(len(l))]
	switch rnd.Intn(4) {
	case 0:
		s.Begin = rnd.Intn(100)
	case 1:
		s.End = rnd.Intn(100)
	case 2:
		s.Fate = rnd.Intn(3)
	default:
		if len(s.Moves) > 0 {
			s.Moves[rnd.Intn(len(s.Moves))].X++
		}
	}
}

// Many stories, and many cells, are gone through once.
func TestCheckOfMany(t *testing.T) {
	const many = 100000
	start := make([]int64, many)
	l := make([]api.Story, many)
	for i := range l {
		l[i] = commits(reads(i, 0), reads(i-1, int64(i)), writes(i, int64(i+1)), reads(i, int64(i+1)))
		l[i].Begin, l[i].End = i+1, i+1
	}
	wantTaken(t, start, l...)
	l[many-1].Moves[1].X++
	wantUnread(t, many-1, start, l...)
	l[many-1].End = many - 2
	wantCheck(t, start, l, upTo(many), api.ErrOpaqueTime, many-1)
}

// One story of many moves is gone through once.
func TestCheckOfManyMoves(t *testing.T) {
	var l []api.Move
	for i := range 200000 {
		l = append(l, writes(i%1000-7, int64(i)), reads(i%1000-7, int64(i)))
	}
	wantTaken(t, nil, commits(l...), lives(reads(992, 199999), reads(-7, 199000)))
	l[len(l)-1].X++
	wantUnread(t, 0, nil, commits(l...))
}
