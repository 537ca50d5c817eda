package opaque_test

import (
	"math/rand"
	"reflect"
	"slices"
	"testing"

	"quash/api"
	"quash/opaque"
)

// P22.3

func TestSearchOfTheExample(t *testing.T) {
	l := three()
	wantSearch(t, nil, l, 2, 0, 1)
	wantNone(t, nil, l[1:2], api.OK)
	wantNone(t, nil, make([]api.Story, 8), api.ErrOpaqueMany)
	wantSearch(t, nil, nil)
	wantSearch(t, []int64{1, 2}, []api.Story{})
}

// Seven are tried; more are not, whatever they are.
func TestSearchOfSoMany(t *testing.T) {
	for many := range 20 {
		if many <= 7 {
			wantSearch(t, nil, make([]api.Story, many), upTo(many)...)
		} else {
			wantNone(t, nil, make([]api.Story, many), api.ErrOpaqueMany)
		}
		if many > 0 {
			bad := make([]api.Story, many)
			bad[many-1] = lives(reads(0, 1))
			want := api.OK
			if many > 7 {
				want = api.ErrOpaqueMany
			}
			wantNone(t, nil, bad, want)
		}
	}
}

// Of seven that can come in one order alone, that one is found.
func TestSearchOfTheOnlyOrder(t *testing.T) {
	for i, order := range allOrders(7) {
		if i%7 != 0 {
			continue
		}
		l, byTime := make([]api.Story, 7), make([]api.Story, 7)
		for at, place := range order {
			l[place] = commits(reads(0, int64(at)), writes(0, int64(at+1)))
			byTime[place] = timed(2*at+1, 2*at+2)
		}
		wantSearch(t, nil, l, order...)
		wantSearch(t, nil, byTime, order...)
	}
}

// The least order is that with the lesser place where two differ first.
func TestSearchFindsTheLeast(t *testing.T) {
	wantSearch(t, nil, []api.Story{lives(reads(0, 1)), lives(), commits(writes(0, 1)), lives()}, 1, 2, 0, 3)
	wantSearch(t, nil, []api.Story{commits(writes(0, 1)), lives(reads(0, 0)), lives()}, 1, 0, 2)
	wantSearch(t, nil, []api.Story{timed(9, 10), timed(1, 0), timed(2, 3)}, 1, 2, 0)
	// 0 may come first, or behind 1, but then there is no way on
	l := []api.Story{commits(writes(0, 1)), commits(writes(0, 2), writes(1, 1)), lives(reads(0, 1), reads(1, 1)), lives(reads(0, 2), reads(1, 1))}
	wantSearch(t, nil, l, 1, 3, 0, 2)
}

// What stories left that were tried and taken back is there no more.
func TestSearchTakesBack(t *testing.T) {
	wantSearch(t, []int64{4}, []api.Story{commits(writes(0, 5)), commits(reads(0, 4), writes(1, 1)), lives(reads(0, 5), reads(1, 1))}, 1, 0, 2)
	wantSearch(t, nil, []api.Story{commits(writes(0, 1)), commits(writes(7, 1)), aborts(reads(0, 0), reads(7, 1))}, 1, 2, 0)
}

// None: no order goes with the time, or none explains all.
func TestSearchFindsNone(t *testing.T) {
	wantNone(t, nil, []api.Story{timed(5, 1), timed(5, 1)}, api.OK)
	wantSearch(t, nil, []api.Story{timed(5, 1)}, 0)
	wantNone(t, nil, []api.Story{lives(reads(0, 0), reads(0, 1)), commits(writes(0, 1))}, api.OK)
	wantNone(t, nil, []api.Story{lives(writes(0, 1), reads(0, 0)), commits(writes(0, 0))}, api.OK)
	early := commits(writes(0, 1))
	early.Begin, early.End = 1, 2
	late := lives(reads(0, 0))
	late.Begin = 3
	wantNone(t, nil, []api.Story{early, late}, api.OK)
	late.Begin = 2
	wantSearch(t, nil, []api.Story{early, late}, 1, 0)
	// each has read what the other one left
	wantNone(t, nil, []api.Story{commits(reads(0, 1), writes(1, 1)), commits(reads(1, 1), writes(0, 1))}, api.OK)
	// both have read ahead of what the other one left
	wantNone(t, nil, []api.Story{commits(reads(0, 0), writes(1, 1)), commits(reads(1, 0), writes(0, 1))}, api.OK)
}

// Any stories, right and spoilt, against all orders by a plain reading.
func TestSearchOfAnyStories(t *testing.T) {
	rnd := rand.New(rand.NewSource(223))
	var all [7][][]int
	for many := range all {
		all[many] = allOrders(many)
	}
	found, least, none := 0, 0, 0
	for round := range 6000 {
		start, many := anyStart(rnd), rnd.Intn(6)
		if round%20 == 0 {
			many = 6
		}
		l, order := lived(rnd, start, many)
		switch rnd.Intn(3) {
		case 0:
			spoil(rnd, l)
		case 1:
			l = anyStories(rnd, many)
		}
		want, is := plainSearch(start, l, all[many])
		if !is {
			wantNone(t, start, l, api.OK)
			none++
			continue
		}
		wantSearch(t, start, l, want...)
		found++
		if !slices.Equal(want, order) {
			least++
		}
	}
	if found < 1000 || least < 1000 || none < 1000 {
		t.Error("too little was tried", found, least, none)
	}
}

// The longest searches end soon: nothing stands in the way till the last story comes.
func TestSearchOfTheHardest(t *testing.T) {
	l := make([]api.Story, 7)
	for i := range l {
		for cell := range 60 {
			l[i].Moves = append(l[i].Moves, reads(cell, 0), writes(cell+100*i+100, int64(cell)))
		}
		l[i].Fate = api.Commits
	}
	wantSearch(t, nil, l, upTo(7)...)
	l[6].Moves = append(l[6].Moves, reads(60, 1))
	wantNone(t, nil, l, api.OK)
}

// P22.4

// roomy has the same things, and room behind them that is filled.
func roomy[T any](l []T, fill T) []T {
	return slices.Clone(append(slices.Clone(l), fill, fill, fill))[:len(l)]
}

// deep has a list with its spare room, and the moves in it with theirs.
func deep(l []api.Story) []api.Story {
	out := slices.Clone(l[:cap(l)])
	for i := range out {
		out[i].Moves = slices.Clone(out[i].Moves[:cap(out[i].Moves)])
	}
	return out
}

func TestArgumentsStayAsTheyAre(t *testing.T) {
	rnd := rand.New(rand.NewSource(224))
	for range 3000 {
		start := roomy(anyStart(rnd), 99)
		l, order := lived(rnd, start, rnd.Intn(9))
		if rnd.Intn(2) == 0 {
			spoil(rnd, l)
		}
		l, order = roomy(l, api.Story{Thread: 99}), roomy(order, 0)
		for i := range l {
			l[i].Moves = roomy(l[i].Moves, api.Move{Step: 99})
		}
		startWas, were, orderWas := slices.Clone(start[:cap(start)]), deep(l), slices.Clone(order[:cap(order)])
		opaque.Order(l)
		opaque.Check(start, l, order)
		opaque.Search(start, l)
		if !slices.Equal(start[:cap(start)], startWas) || !reflect.DeepEqual(deep(l), were) || !slices.Equal(order[:cap(order)], orderWas) {
			t.Fatal(start, l, order)
		}
	}
}

// scribble fills a list and its spare room.
func scribble[T any](l []T, fill T) {
	l = l[:cap(l)]
	for i := range l {
		l[i] = fill
	}
}

// Nothing is kept from call to call, and answers have nothing in common with arguments or with each other.
func TestAnswersAreNewMemory(t *testing.T) {
	rnd := rand.New(rand.NewSource(2240))
	for range 2000 {
		start := anyStart(rnd)
		l, _ := lived(rnd, start, rnd.Intn(8))
		order := opaque.Order(l)
		found, is, e := opaque.Search(start, l)
		if !is || e != api.OK {
			t.Fatal(start, l, is, e)
		}
		orderWas, foundWas := slices.Clone(order), slices.Clone(found)
		scribble(opaque.Order(l), -9)
		again, _, _ := opaque.Search(start, l)
		scribble(again, -9)
		wantOrder(t, l, orderWas...)
		wantSearch(t, start, l, foundWas...)
		for i := range l {
			scribble(l[i].Moves, api.Move{Cell: -9})
		}
		scribble(l, api.Story{})
		scribble(start, -9)
		if !slices.Equal(order, orderWas) || !slices.Equal(found, foundWas) {
			t.Fatal(order, orderWas, found, foundWas)
		}
	}
}
