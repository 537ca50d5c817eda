package opaque_test

import (
	"math"
	"math/rand"
	"slices"
	"testing"

	"quash/api"
	"quash/opaque"
)

// P22.1

func TestOrderOfTheExample(t *testing.T) {
	wantOrder(t, three(), 2, 0, 1)
	wantOrder(t, nil)
	wantOrder(t, []api.Story{})
	wantOrder(t, make([]api.Story, 1), 0)
}

// pointed has its point at a number and a step: one that commits and writes, or one that only reads.
func pointed(changes bool, number, step int) api.Story {
	if changes {
		return api.Story{Begin: 1, End: step, Fate: api.Commits, Gate: number, Moves: []api.Move{writes(0, 1)}}
	}
	return api.Story{Begin: 1, End: 99, Moves: []api.Move{{Step: step, Gate: number}}}
}

// First numbers count, then who writes, then steps, then places.
func TestOrderByEach(t *testing.T) {
	wantOrder(t, []api.Story{pointed(false, 4, 1), pointed(true, 3, 9), pointed(false, 2, 20)}, 2, 1, 0)
	wantOrder(t, []api.Story{pointed(false, 3, 1), pointed(true, 3, 9), pointed(false, 3, 0), pointed(true, 3, 8)}, 3, 1, 2, 0)
	wantOrder(t, []api.Story{pointed(false, 3, 5), pointed(false, 3, 4), pointed(false, 3, 5), pointed(false, 3, 3)}, 3, 1, 0, 2)
	wantOrder(t, []api.Story{pointed(true, 3, 5), pointed(true, 3, 4), pointed(true, 3, 5), pointed(true, 3, 3)}, 3, 1, 0, 2)
	wantOrder(t, make([]api.Story, 9), 0, 1, 2, 3, 4, 5, 6, 7, 8)
}

// Only who commits and has a write comes first: not who writes and aborts or lives, nor who commits and only reads.
func TestOrderOfFates(t *testing.T) {
	for _, fate := range edgeInts() {
		writer := api.Story{Fate: fate, Begin: 7, End: 7, Opens: 3, Gate: 3, Moves: []api.Move{writes(0, 1)}}
		reader := api.Story{Fate: fate, Begin: 6, End: 6, Opens: 3, Gate: 3}
		if fate == api.Commits {
			wantOrder(t, []api.Story{reader, writer}, 1, 0)
		} else {
			wantOrder(t, []api.Story{reader, writer}, 0, 1)
			wantOrder(t, []api.Story{writer, reader}, 1, 0)
		}
	}
}

// A write that is marked as own is one; an own read is none, and counts for no point.
func TestOrderOfOwnMoves(t *testing.T) {
	own := api.Story{Fate: api.Commits, Begin: 4, End: 9, Opens: 2, Gate: 2, Moves: []api.Move{{Own: true, Gate: 7, Step: 8}}}
	other := api.Story{Begin: 3, Opens: 2}
	wantOrder(t, []api.Story{own, other}, 1, 0)
	own.Moves = append(own.Moves, api.Move{Own: true, Write: true})
	wantOrder(t, []api.Story{own, other}, 0, 1)
}

// Numbers and steps that lie far apart are compared as numbers are.
func TestOrderOfEdges(t *testing.T) {
	for _, changes := range []bool{false, true} {
		var byNumber, byStep []api.Story
		for _, n := range edgeInts() {
			byNumber = append(byNumber, pointed(changes, n, 5))
			byStep = append(byStep, pointed(changes, 5, n))
		}
		want := upTo(len(byNumber))
		wantOrder(t, byNumber, want...)
		wantOrder(t, byStep, want...)
		slices.Reverse(byNumber)
		slices.Reverse(byStep)
		slices.Reverse(want)
		wantOrder(t, byNumber, want...)
		wantOrder(t, byStep, want...)
	}
	wantOrder(t, []api.Story{pointed(false, math.MinInt, 0), pointed(true, math.MinInt, 9)}, 1, 0)
}

func TestOrderOfAnyStories(t *testing.T) {
	rnd := rand.New(rand.NewSource(221))
	for range 20000 {
		l := anyStories(rnd, rnd.Intn(12))
		wantOrder(t, l, plainOrder(l)...)
	}
}

// Many stories with many moves: a point is not asked for again and again.
func TestOrderOfMany(t *testing.T) {
	rnd := rand.New(rand.NewSource(2210))
	l := make([]api.Story, 2000)
	moves := make([]api.Move, 2000)
	for i := range l {
		l[i] = api.Story{Fate: api.Commits, Gate: rnd.Intn(500), Moves: moves}
	}
	order := opaque.Order(l)
	if !plainIsOrder(len(l), order) {
		t.Fatal("no order")
	}
	for i := 1; i < len(order); i++ {
		if !plainAhead(l, order[i-1], order[i]) {
			t.Fatal(i, order[i-1], order[i])
		}
	}
}
