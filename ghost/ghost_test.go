package ghost_test

import (
	"math"
	"math/rand"
	"reflect"
	"slices"
	"testing"

	"quash/api"
	"quash/ghost"
)

func pairs(l ...api.Pair) []api.Pair { return l }

func wantReads(t *testing.T, s api.Story, want []api.Pair) {
	t.Helper()
	if got := ghost.Reads(s); !slices.Equal(got, want) {
		t.Error(s, "got", got, "want", want)
	}
}

func wantWrites(t *testing.T, s api.Story, want []api.Pair) {
	t.Helper()
	if got := ghost.Writes(s); !slices.Equal(got, want) {
		t.Error(s, "got", got, "want", want)
	}
}

func wantPoint(t *testing.T, s api.Story, gate, step int) {
	t.Helper()
	if g, k := ghost.Point(s); g != gate || k != step {
		t.Error(s, "got", g, k, "want", gate, step)
	}
}

func wantFinal(t *testing.T, start []int64, l []api.Story, want ...int64) {
	t.Helper()
	if got := ghost.Final(start, l); !slices.Equal(got, want) {
		t.Error(start, l, "got", got, "want", want)
	}
}

// P21.2

func TestReadsWritesPointOfTheExample(t *testing.T) {
	s := mustBuild(t, lined(begin(2), read(3, 7, 4), write(3, 8), readOwn(3, 8), commit(5)))[0]
	wantReads(t, s, pairs(api.Pair{Cell: 3, X: 7}))
	wantWrites(t, s, pairs(api.Pair{Cell: 3, X: 8}))
	wantPoint(t, s, 5, 5)
}

// Reads of one cell stand as often as they were done, in their order.
func TestReadsKeepsAll(t *testing.T) {
	s := api.Story{Moves: []api.Move{{Cell: 3, X: 7}, {Cell: 1, X: 2}, {Cell: 3, X: 7}, {Cell: 3, X: 9, Own: true}, {Cell: 4, X: 9, Write: true}, {Cell: 3, X: 6}}}
	wantReads(t, s, pairs(api.Pair{Cell: 3, X: 7}, api.Pair{Cell: 1, X: 2}, api.Pair{Cell: 3, X: 7}, api.Pair{Cell: 3, X: 6}))
	wantReads(t, api.Story{}, nil)
}

// Writes has each cell where it came first, with what came last; a write that is marked as own is one.
func TestWritesKeepsFirstPlacesAndLastValues(t *testing.T) {
	s := api.Story{Moves: []api.Move{
		{Cell: 5, X: 1, Write: true}, {Cell: 2, X: 2, Write: true}, {Cell: 9, X: 3}, {Cell: 5, X: 4, Write: true},
		{Cell: -1, X: 5, Write: true, Own: true}, {Cell: 2, X: 6, Own: true}, {Cell: 5, X: 0, Write: true},
	}}
	wantWrites(t, s, pairs(api.Pair{Cell: 5, X: 0}, api.Pair{Cell: 2, X: 2}, api.Pair{Cell: -1, X: 5}))
	wantReads(t, s, pairs(api.Pair{Cell: 9, X: 3}))
	wantWrites(t, api.Story{}, nil)
}

func TestReadsAndWritesOfAnyStory(t *testing.T) {
	rnd := rand.New(rand.NewSource(212))
	for range 20000 {
		s := anyStory(rnd)
		wantReads(t, s, plainReads(s))
		wantWrites(t, s, plainWrites(s))
	}
}

// Nothing but the moves is asked for.
func TestReadsAndWritesHangOnMovesAlone(t *testing.T) {
	moves := []api.Move{{Cell: 3, X: 7}, {Cell: 3, X: 8, Write: true}}
	for _, fate := range append(edgeInts(), 1, 2, 3) {
		s := api.Story{Fate: fate, E: api.ErrDoomed, Moves: moves}
		wantReads(t, s, pairs(api.Pair{Cell: 3, X: 7}))
		wantWrites(t, s, pairs(api.Pair{Cell: 3, X: 8}))
	}
}

// P21.3

func TestPointOfExamples(t *testing.T) {
	wantPoint(t, api.Story{Begin: 2, Opens: 2, Moves: []api.Move{{Step: 9, Gate: 4}}}, 4, 9)
	wantPoint(t, api.Story{Begin: 2, Opens: 3}, 3, 2)
}

// Each fate with each sort of moves.
func TestPointOfFates(t *testing.T) {
	out, own, write := api.Move{Step: 9, Gate: 4}, api.Move{Step: 10, Gate: 6, Own: true}, api.Move{Step: 11, Gate: 8, Write: true}
	outAgain, ownWrite := api.Move{Step: 12, Gate: 2}, api.Move{Step: 13, Gate: 10, Write: true, Own: true}
	for _, fate := range append(edgeInts(), 1, 2, 3) {
		s := func(l ...api.Move) api.Story {
			return api.Story{Fate: fate, Begin: 5, End: 20, Opens: 1, Gate: 30, Moves: l}
		}
		wantPoint(t, s(), 1, 5)
		wantPoint(t, s(own), 1, 5)
		wantPoint(t, s(out), 4, 9)
		wantPoint(t, s(out, own), 4, 9)
		wantPoint(t, s(out, own, outAgain), 2, 12)
		for _, c := range []struct {
			l          []api.Move
			gate, step int // if it does not commit
		}{
			{[]api.Move{write}, 1, 5},
			{[]api.Move{ownWrite}, 1, 5},
			{[]api.Move{write, own}, 1, 5},
			{[]api.Move{out, write}, 4, 9},
			{[]api.Move{write, out}, 4, 9},
			{[]api.Move{out, ownWrite, own}, 4, 9},
			{[]api.Move{out, write, outAgain, own}, 2, 12},
		} {
			if fate == api.Commits {
				c.gate, c.step = 30, 20
			}
			wantPoint(t, s(c.l...), c.gate, c.step)
		}
	}
}

// What a move is, not its numbers, says whether it counts: a read at gate 0 in step 0 is one.
func TestPointOfZeros(t *testing.T) {
	wantPoint(t, api.Story{Begin: 2, Opens: 3, Moves: []api.Move{{}}}, 0, 0)
	wantPoint(t, api.Story{Begin: 2, Opens: 3, Moves: []api.Move{{Step: 4, Gate: 6}, {}}}, 0, 0)
}

func TestPointOfAnyStory(t *testing.T) {
	rnd := rand.New(rand.NewSource(213))
	for range 20000 {
		s := anyStory(rnd)
		gate, step := plainPoint(s)
		wantPoint(t, s, gate, step)
	}
}

// P21.4

// writer commits at a gate, and writes.
func writer(gate int, l ...api.Pair) api.Story {
	s := api.Story{Fate: api.Commits, Gate: gate}
	for _, p := range l {
		s.Moves = append(s.Moves, api.Move{Write: true, Cell: p.Cell, X: p.X})
	}
	return s
}

func TestFinalOfTheExample(t *testing.T) {
	l := []api.Story{writer(5, api.Pair{Cell: 1, X: 9}), writer(3, api.Pair{Cell: 1, X: 8}, api.Pair{Cell: 2, X: 6}, api.Pair{Cell: 7, X: 1})}
	wantFinal(t, []int64{0, 0, 0}, l, 0, 9, 6)
}

func TestFinalOfNone(t *testing.T) {
	wantFinal(t, nil, nil)
	wantFinal(t, []int64{4, -7}, nil, 4, -7)
	wantFinal(t, nil, []api.Story{writer(1, api.Pair{Cell: 0, X: 9})})
}

// Only those that commit count, and only their writes, the last one of a cell.
func TestFinalOfFates(t *testing.T) {
	for _, fate := range append(edgeInts(), 1, 2, 3) {
		s := api.Story{Fate: fate, Gate: 3, Moves: []api.Move{{Cell: 0, X: 7}, {Cell: 1, X: 5, Write: true}, {Cell: 1, X: 5, Own: true}, {Cell: 1, X: 6, Write: true}, {Cell: 2, X: 9, Own: true}}}
		if fate == api.Commits {
			wantFinal(t, []int64{1, 2, 3}, []api.Story{s}, 1, 6, 3)
		} else {
			wantFinal(t, []int64{1, 2, 3}, []api.Story{s}, 1, 2, 3)
		}
	}
}

func TestFinalLeavesOtherCellsOut(t *testing.T) {
	for _, cell := range append(edgeInts(), 2, 3, 256, 1<<32+1) {
		if cell == 0 {
			continue
		}
		wantFinal(t, []int64{4, 5}, []api.Story{writer(1, api.Pair{Cell: cell, X: 9}, api.Pair{Cell: 1, X: 6})}, 4, 6)
	}
	// Room behind start is no cell.
	start := append(make([]int64, 0, 9), 4, 5)
	wantFinal(t, start, []api.Story{writer(1, api.Pair{Cell: 2, X: 9})}, 4, 5)
}

// By gates, however far apart; of one gate the one that stands behind in the list stays.
func TestFinalGoesByGates(t *testing.T) {
	gates := []int{math.MinInt, math.MinInt + 1, -5, -1, 0, 1, 5, math.MaxInt - 1, math.MaxInt}
	for i, a := range gates {
		for j, b := range gates {
			l := []api.Story{writer(a, api.Pair{Cell: 0, X: 1}), writer(b, api.Pair{Cell: 0, X: 2})}
			want := int64(2)
			if j < i {
				want = 1
			}
			wantFinal(t, []int64{0}, l, want)
		}
	}
}

// Steps, stamps and opening gates do not count.
func TestFinalGoesByNothingElse(t *testing.T) {
	a, b := writer(5, api.Pair{Cell: 0, X: 1}), writer(3, api.Pair{Cell: 0, X: 2})
	a.Begin, a.End, a.Opens, a.Stamp, a.Thread = 1, 2, 0, 1, 1
	b.Begin, b.End, b.Opens, b.Stamp, b.Thread = 8, 9, 8, 8, 2
	wantFinal(t, []int64{0}, []api.Story{a, b}, 1)
	wantFinal(t, []int64{0}, []api.Story{b, a}, 1)
}

// A great many of one gate keep their order.
func TestFinalIsSteady(t *testing.T) {
	var l []api.Story
	for i := range 1000 {
		l = append(l, writer(7-i%2, api.Pair{Cell: i % 2, X: int64(i)}))
	}
	wantFinal(t, []int64{-1, -1}, l, 998, 999)
}

func TestFinalOfAnyStories(t *testing.T) {
	rnd := rand.New(rand.NewSource(214))
	changed := 0
	for range 20000 {
		start := make([]int64, rnd.Intn(6))
		for i := range start {
			start[i] = int64(anyInt(rnd))
		}
		l := anyStories(rnd)
		want := plainFinal(start, l)
		wantFinal(t, start, l, want...)
		if !slices.Equal(want, start) {
			changed++
		}
	}
	if changed < 5000 {
		t.Error("too little was tried", changed)
	}
}

// P21.5

func TestCount(t *testing.T) {
	if got := ghost.Count(nil); got != (api.Tally{}) {
		t.Error(got)
	}
	l := []api.Story{{Fate: api.Commits}, {Fate: api.Aborts, E: api.ErrDoomed}, {Fate: api.Aborts, E: api.ErrYield}, {}, {Fate: api.Aborts}, {Fate: api.Lives}, {Fate: api.Commits}, {Fate: api.Lives}, {Fate: api.Lives}}
	if got := ghost.Count(l); got != (api.Tally{Lives: 4, Commits: 2, Aborts: 3, Doomed: 1}) {
		t.Error(got)
	}
}

// Only those that abort are doomed, whatever E the others have; fates that are none live.
func TestCountOfFates(t *testing.T) {
	for _, fate := range append(edgeInts(), 1, 2, 3, 4) {
		for _, e := range []api.Errno{api.OK, api.ErrSlots, api.ErrDoomed, api.ErrYield, 7 << 32, -7} {
			var want api.Tally
			switch fate {
			case 1:
				want.Commits = 2
			case 2:
				want.Aborts = 2
				if e == api.ErrDoomed {
					want.Doomed = 2
				}
			default:
				want.Lives = 2
			}
			s := api.Story{Fate: fate, E: e, By: 3, End: 5, Gate: 1}
			if got := ghost.Count([]api.Story{s, s}); got != want {
				t.Error(fate, e, got)
			}
		}
	}
}

// P21.6

// roomy has the same things, and room behind them that is filled.
func roomy[T any](l []T, fill T) []T {
	out := slices.Clone(append(slices.Clone(l), fill, fill, fill))
	return out[:len(l)]
}

func roomyStories(l []api.Story) []api.Story {
	out := roomy(l, api.Story{Thread: 99})
	for i := range out {
		out[i].Moves = roomy(out[i].Moves, api.Move{Step: 99})
	}
	return out
}

// deep has a list with its spare room, and the moves in it with theirs.
func deep(l []api.Story) []api.Story {
	out := slices.Clone(l[:cap(l)])
	for i := range out {
		out[i].Moves = slices.Clone(out[i].Moves[:cap(out[i].Moves)])
	}
	return out
}

func TestArgumentsStayAsTheyAre(t *testing.T) {
	rnd := rand.New(rand.NewSource(216))
	for range 1000 {
		events := roomy(anyEvents(rnd, rnd.Intn(40)), api.Event{Kind: 99})
		if rnd.Intn(2) == 0 && len(events) > 0 {
			events = roomy(spoilt(rnd, events), api.Event{Kind: 99})
		}
		eventsWere := slices.Clone(events[:cap(events)])
		ghost.Build(events)
		if !slices.Equal(events[:cap(events)], eventsWere) {
			t.Fatal(events, eventsWere)
		}
		start := roomy([]int64{1, 2, 3, 4}, 99)
		startWas := slices.Clone(start[:cap(start)])
		l := roomyStories(anyStories(rnd))
		were := deep(l)
		ghost.Final(start, l)
		ghost.Count(l)
		for _, s := range l {
			ghost.Reads(s)
			ghost.Writes(s)
			ghost.Point(s)
		}
		if !slices.Equal(start[:cap(start)], startWas) || !reflect.DeepEqual(deep(l), were) {
			t.Fatal(start, l, were)
		}
	}
}

// scribble fills a list and its spare room.
func scribble[T any](l []T, fill T) {
	l = l[:cap(l)]
	for i := range l {
		l[i] = fill
	}
}

func TestBuildIsNewMemory(t *testing.T) {
	rnd := rand.New(rand.NewSource(2160))
	for range 500 {
		l := anyEvents(rnd, rnd.Intn(80))
		want := mustBuild(t, l)
		got := mustBuild(t, l)
		for i := range got {
			scribble(got[i].Moves, api.Move{Step: -1})
			for j := i + 1; j < len(got); j++ {
				if !sameStory(got[j], want[j]) {
					t.Fatal("moves of two stories in one place", i, j)
				}
			}
		}
		scribble(got, api.Story{})
		if again := mustBuild(t, l); !sameStories(again, want) {
			t.Fatal(again, want)
		}
		for i := range want {
			want[i].Moves = slices.Clone(want[i].Moves)
		}
		got = mustBuild(t, l)
		scribble(l, api.Event{Kind: -1})
		if !sameStories(got, want) {
			t.Fatal("events are kept")
		}
	}
}

func TestOtherAnswersAreNewMemory(t *testing.T) {
	rnd := rand.New(rand.NewSource(2161))
	for range 1000 {
		s := anyStory(rnd)
		wantR, wantW := plainReads(s), plainWrites(s)
		r, w := ghost.Reads(s), ghost.Writes(s)
		scribble(ghost.Reads(s), api.Pair{Cell: -9})
		scribble(ghost.Writes(s), api.Pair{Cell: -9})
		l := anyStories(rnd)
		start := append(make([]int64, 0, 7), 1, 2, 3)[:rnd.Intn(4)]
		startWas := slices.Clone(start[:cap(start)])
		out := ghost.Final(start, l)
		outWas := slices.Clone(out)
		scribble(ghost.Final(start, l), -9)
		if !slices.Equal(start[:cap(start)], startWas) {
			t.Fatal("start is handed out")
		}
		scribble(start, -8)
		scribble(s.Moves, api.Move{Cell: -9})
		if !slices.Equal(out, outWas) || !slices.Equal(r, wantR) || !slices.Equal(w, wantW) {
			t.Fatal(out, outWas, r, wantR, w, wantW)
		}
	}
}
