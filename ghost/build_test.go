package ghost_test

import (
	"math"
	"math/rand"
	"slices"
	"testing"

	"quash/api"
	"quash/ghost"
)

// P21.1

func TestBuildOfNone(t *testing.T) {
	wantBuild(t, nil)
	wantBuild(t, []api.Event{})
}

func TestBuildOfTheExample(t *testing.T) {
	l := lined(begin(2), read(3, 7, 4), write(3, 8), readOwn(3, 8), commit(5))
	wantBuild(t, l, api.Story{Thread: 1, Stamp: 1, Begin: 1, End: 5, Fate: api.Commits, Opens: 2, Gate: 5, Moves: []api.Move{
		{Step: 2, Cell: 3, X: 7, Gate: 4},
		{Step: 3, Write: true, Cell: 3, X: 8},
		{Step: 4, Cell: 3, X: 8, Own: true},
	}})
}

func TestBuildOfWrongExamples(t *testing.T) {
	wantNoBuild(t, lined(read(0, 0, 0)), 0)
	wantNoBuild(t, lined(begin(0), begin(0)), 1)
	wantNoBuild(t, lined(begin(0), withStamp(commit(1), 2)), 1)
	wantNoBuild(t, lined(begin(0), noSlot()), 1)
}

// Every field of every event is filled: those that are not named are not taken over.
func TestBuildTakesNamedFieldsAlone(t *testing.T) {
	full := func(kind, step int, own bool, e api.Errno) api.Event {
		return api.Event{Kind: kind, Step: step, Thread: 8, Stamp: 2, Cell: 10 + step, X: int64(20 + step), Own: own, Gate: 30 + step, E: e, By: 40 + step}
	}
	moves := []api.Move{
		{Step: 4, Cell: 14, X: 24, Gate: 34},
		{Step: 5, Cell: 15, X: 25, Own: true},
		{Step: 6, Cell: 16, X: 26, Write: true},
		{Step: 7, Cell: 17, X: 27, Write: true},
	}
	l := []api.Event{
		full(api.EventBegin, 3, true, api.ErrDoomed),
		full(api.EventRead, 4, false, api.ErrDoomed),
		full(api.EventRead, 5, true, api.ErrDoomed),
		full(api.EventWrite, 6, true, api.ErrDoomed),
		full(api.EventWrite, 7, false, api.ErrDoomed),
	}
	s := api.Story{Thread: 8, Stamp: 2, Begin: 3, Opens: 33, Moves: moves}
	wantBuild(t, l, s)
	s.End = 8
	s.Fate, s.Gate = api.Commits, 38
	wantBuild(t, append(slices.Clone(l), full(api.EventCommit, 8, true, api.ErrDoomed)), s)
	s.Fate, s.Gate, s.E, s.By = api.Aborts, 0, api.ErrDoomed, 48
	wantBuild(t, append(slices.Clone(l), full(api.EventAbort, 8, true, api.ErrDoomed)), s)
	for _, e := range []api.Errno{api.OK, api.ErrSlots, api.ErrYield, api.ErrDefer, api.ErrWrites, api.ErrProgAbort, -7, 7 << 32, math.MaxInt} {
		s.E, s.By = e, 0
		wantBuild(t, append(slices.Clone(l), full(api.EventAbort, 8, true, e)), s)
	}
	wantBuild(t, []api.Event{full(api.EventSlots, 8, true, api.ErrDoomed)})
}

// Cells, values, gates, errors and dooming threads may be any numbers.
func TestBuildTakesAnyOtherNumber(t *testing.T) {
	for _, n := range edgeInts() {
		x := int64(n)
		l := lined(begin(n), read(n, x, n), readOwn(n, x), write(n, x), abort(api.ErrDoomed, n), begin(n), commit(n), begin(n), abort(api.Errno(n), n))
		wantBuild(t, l,
			api.Story{Thread: 1, Stamp: 1, Begin: 1, End: 5, Fate: api.Aborts, E: api.ErrDoomed, By: n, Opens: n, Moves: []api.Move{
				{Step: 2, Cell: n, X: x, Gate: n}, {Step: 3, Cell: n, X: x, Own: true}, {Step: 4, Cell: n, X: x, Write: true}}},
			api.Story{Thread: 1, Stamp: 1, Begin: 6, End: 7, Fate: api.Commits, Opens: n, Gate: n},
			api.Story{Thread: 1, Stamp: 1, Begin: 8, End: 9, Fate: api.Aborts, E: api.Errno(n), Opens: n})
	}
}

// Stories stand by their begins, not by their ends, and not by their threads.
func TestBuildKeepsTheOrderOfBegins(t *testing.T) {
	l := lined(of(2, begin(0)), of(1, begin(2)), of(1, write(0, 1)), of(1, commit(3)), of(1, begin(4)), of(2, read(0, 1, 4)), of(2, commit(4)), of(2, begin(6)), of(1, abort(api.ErrYield, 0)))
	wantBuild(t, l,
		api.Story{Thread: 2, Stamp: 1, Begin: 1, End: 7, Fate: api.Commits, Gate: 4, Moves: []api.Move{{Step: 6, X: 1, Gate: 4}}},
		api.Story{Thread: 1, Stamp: 1, Begin: 2, End: 4, Fate: api.Commits, Opens: 2, Gate: 3, Moves: []api.Move{{Step: 3, X: 1, Write: true}}},
		api.Story{Thread: 1, Stamp: 1, Begin: 5, End: 9, Fate: api.Aborts, E: api.ErrYield, Opens: 4},
		api.Story{Thread: 2, Stamp: 1, Begin: 8, Opens: 6})
}

func TestBuildOfAllThreads(t *testing.T) {
	var l []api.Event
	var want []api.Story
	for thread := 8; thread >= 1; thread-- {
		l = append(l, of(thread, withStamp(begin(thread), 1)))
		want = append(want, api.Story{Thread: thread, Stamp: 1, Begin: len(l), Opens: thread})
	}
	for i := range want {
		l = append(l, of(want[i].Thread, read(i, 3, 2)))
		want[i].Moves = []api.Move{{Step: len(l), Cell: i, X: 3, Gate: 2}}
	}
	wantBuild(t, lined(l...), want...)
}

// A thread that found no slot has no story, and may begin behind that, with another stamp too.
func TestBuildLeavesSlotsOut(t *testing.T) {
	l := lined(noSlot(), noSlot(), withStamp(noSlot(), 2), withStamp(begin(0), 3), withStamp(commit(1), 3), noSlot(), begin(4))
	wantBuild(t, l,
		api.Story{Thread: 1, Stamp: 3, Begin: 4, End: 5, Fate: api.Commits, Gate: 1},
		api.Story{Thread: 1, Stamp: 1, Begin: 7, Opens: 4})
}

// Each kind of event at each state of its thread's story.
func TestBuildOfEveryKind(t *testing.T) {
	aheads := [][]api.Event{
		{},
		{begin(0)},
		{begin(0), read(0, 0, 0)},
		{begin(0), write(0, 0)},
		{begin(0), commit(1)},
		{begin(0), abort(api.ErrDoomed, 2)},
		{noSlot()},
		{of(2, begin(0))},
		{begin(0), of(2, begin(0)), commit(1)},
	}
	open := []bool{false, true, true, true, false, false, false, false, false}
	kinds := append(edgeInts(), 1, 2, 3, 4, 5, 6, 7, 8, 9)
	for i, ahead := range aheads {
		for _, kind := range kinds {
			l := lined(append(slices.Clone(ahead), withKind(read(0, 0, 0), kind))...)
			right := kind >= 2 && kind <= 5
			if !open[i] {
				right = kind == 1 || kind == 6
			}
			if right {
				mustBuild(t, l)
			} else {
				wantNoBuild(t, l, len(ahead))
			}
		}
	}
}

func TestBuildOfThreads(t *testing.T) {
	for thread := 1; thread <= 8; thread++ {
		wantBuild(t, lined(of(thread, begin(0))), api.Story{Thread: thread, Stamp: 1, Begin: 1})
	}
	for _, thread := range append(edgeInts(), 9, 10, 16, 1<<32+3) {
		for kind := 1; kind <= 6; kind++ {
			wantNoBuild(t, lined(of(thread, withKind(begin(0), kind))), 0)
			wantNoBuild(t, lined(begin(0), of(thread, withKind(begin(0), kind))), 1)
		}
	}
}

// Steps may rest or rise by any number, and may be great; they may not fall, also where the event ahead is another thread's.
func TestBuildOfSteps(t *testing.T) {
	for _, step := range []int{1, 2, 1 << 32, math.MaxInt} {
		wantBuild(t, []api.Event{withStep(begin(0), step)}, api.Story{Thread: 1, Stamp: 1, Begin: step})
	}
	for _, step := range []int{math.MinInt, -1 << 32, -1<<32 + 1, -1, 0} {
		wantNoBuild(t, []api.Event{withStep(begin(0), step)}, 0)
		wantNoBuild(t, []api.Event{withStep(withStamp(begin(0), step), step)}, 0)
	}
	for _, ahead := range []int{2, 7, 1 << 40, math.MaxInt} {
		for _, step := range []int{1, 2, 6, 7, 8, 1<<40 - 1, 1 << 40, math.MaxInt - 1, math.MaxInt} {
			for _, thread := range []int{1, 2} {
				for _, kind := range []int{api.EventRead, api.EventCommit, api.EventBegin, api.EventSlots} {
					if (kind == api.EventRead || kind == api.EventCommit) != (thread == 1) {
						continue
					}
					l := []api.Event{withStep(begin(0), ahead), withStep(of(thread, withKind(read(0, 0, 0), kind)), step)}
					if step >= ahead {
						mustBuild(t, l)
					} else {
						wantNoBuild(t, l, 1)
					}
				}
			}
		}
	}
}

// The event ahead counts, whatever it is: steps may not fall behind an EventSlots either.
func TestBuildOfStepsBehindSlots(t *testing.T) {
	wantNoBuild(t, []api.Event{withStep(of(2, noSlot()), 5), withStep(begin(0), 4)}, 1)
	wantNoBuild(t, []api.Event{withStep(begin(0), 3), withStep(of(2, noSlot()), 5), withStep(commit(0), 4)}, 2)
	mustBuild(t, []api.Event{withStep(begin(0), 3), withStep(of(2, noSlot()), 5), withStep(commit(0), 5)})
}

func TestBuildOfStamps(t *testing.T) {
	for _, kind := range []int{api.EventBegin, api.EventSlots} {
		v := withStep(withKind(begin(0), kind), 9)
		for _, stamp := range []int{1, 2, 8, 9} {
			mustBuild(t, []api.Event{withStamp(v, stamp)})
		}
		for _, stamp := range []int{math.MinInt, -1<<32 + 1, -1, 0, 10, 1<<32 + 1, math.MaxInt} {
			wantNoBuild(t, []api.Event{withStamp(v, stamp)}, 0)
		}
	}
	for kind := api.EventRead; kind <= api.EventAbort; kind++ {
		for _, stamp := range []int{math.MinInt, -1, 0, 1, 2, 3, 4, 5, 6, 9, 10, 1<<32 + 3, math.MaxInt} {
			l := []api.Event{withStep(withStamp(begin(0), 3), 5), withStep(withStamp(withKind(begin(0), kind), stamp), 9)}
			if stamp == 3 {
				mustBuild(t, l)
			} else {
				wantNoBuild(t, l, 1)
			}
		}
	}
}

// The stamp that counts is that of the thread's own story, the one that is open.
func TestBuildHoldsStampsAgainstTheOpenStory(t *testing.T) {
	two := []api.Event{begin(0), of(2, withStamp(begin(0), 2))}
	mustBuild(t, lined(append(slices.Clone(two), of(2, withStamp(read(0, 0, 0), 2)), commit(1))...))
	wantNoBuild(t, lined(append(slices.Clone(two), of(2, read(0, 0, 0)))...), 2)
	wantNoBuild(t, lined(append(slices.Clone(two), withStamp(read(0, 0, 0), 2))...), 2)
	again := []api.Event{begin(0), commit(1), withStamp(begin(0), 2)}
	mustBuild(t, lined(append(slices.Clone(again), withStamp(commit(1), 2))...))
	wantNoBuild(t, lined(append(slices.Clone(again), commit(1))...), 3)
}

// The place is that of the first one that is wrong, whatever comes behind it.
func TestBuildTellsTheFirstWrong(t *testing.T) {
	wantNoBuild(t, lined(begin(0), commit(1), commit(1), withKind(begin(0), 7), of(9, begin(0))), 2)
	wantNoBuild(t, lined(begin(0), of(0, read(0, 0, 0)), begin(0)), 1)
	wantNoBuild(t, make([]api.Event, 5), 0)
}

func TestBuildIsThePlainReading(t *testing.T) {
	rnd := rand.New(rand.NewSource(211))
	fates := map[int]int{}
	for range 3000 {
		l := anyEvents(rnd, rnd.Intn(60))
		want, at, e := plainBuild(l)
		if at != 0 || e != api.OK {
			t.Fatal("events that are none", l, at)
		}
		wantBuild(t, l, want...)
		for _, s := range want {
			fates[s.Fate]++
		}
	}
	if fates[api.Lives] < 1000 || fates[api.Commits] < 1000 || fates[api.Aborts] < 1000 {
		t.Error("too little was tried", fates)
	}
}

// spoilt has one event changed, doubled, moved or taken away: it may be right all the same.
func spoilt(rnd *rand.Rand, l []api.Event) []api.Event {
	out := slices.Clone(l)
	i, j := rnd.Intn(len(l)), rnd.Intn(len(l))
	switch rnd.Intn(8) {
	case 0:
		out[i].Kind = rnd.Intn(9) - 1
	case 1:
		out[i].Thread = rnd.Intn(11) - 1
	case 2:
		out[i].Step += rnd.Intn(5) - 2
	case 3:
		out[i].Stamp += rnd.Intn(5) - 2
	case 4:
		out[i], out[j] = out[j], out[i]
	case 5:
		out = slices.Insert(out, i, out[i])
	case 6:
		out = slices.Delete(out, i, i+1)
	case 7:
		out[i].Step, out[i].Stamp = anyInt(rnd), anyInt(rnd)
	}
	return out
}

func TestBuildOfSpoiltEvents(t *testing.T) {
	rnd := rand.New(rand.NewSource(2110))
	right, wrong := 0, 0
	for range 20000 {
		l := spoilt(rnd, anyEvents(rnd, 1+rnd.Intn(25)))
		want, at, e := plainBuild(l)
		if e != api.OK {
			wantNoBuild(t, l, at)
			wrong++
		} else {
			wantBuild(t, l, want...)
			right++
		}
	}
	if right < 2000 || wrong < 2000 {
		t.Error("too little was tried", right, wrong)
	}
}

// Events of any numbers at all end in an answer.
func TestBuildOfAnyNumbers(t *testing.T) {
	rnd := rand.New(rand.NewSource(2111))
	for range 20000 {
		var l []api.Event
		for range rnd.Intn(6) {
			l = append(l, noise(rnd, api.Event{Kind: rnd.Intn(8), Step: anyInt(rnd), Thread: rnd.Intn(10), Stamp: anyInt(rnd)}))
		}
		want, at, e := plainBuild(l)
		if e != api.OK {
			wantNoBuild(t, l, at)
		} else {
			wantBuild(t, l, want...)
		}
	}
}

// Many events do not take long.
func TestBuildOfManyEvents(t *testing.T) {
	l := []api.Event{begin(0)}
	for i := range 300000 {
		l = append(l, write(i, 1))
	}
	l = append(l, commit(1))
	for range 100000 {
		l = append(l, begin(2), commit(1))
	}
	got := mustBuild(t, lined(l...))
	if len(got) != 100001 || len(got[0].Moves) != 300000 || len(ghost.Writes(got[0])) != 300000 {
		t.Error(len(got))
	}
	if out := ghost.Final(make([]int64, 300001), got); out[299999] != 1 || out[300000] != 0 {
		t.Error(out[299999:])
	}
}

// P21.7

// A beginning makes the first of the stories, each as far as it had come.
func TestBuildOfBeginnings(t *testing.T) {
	rnd := rand.New(rand.NewSource(217))
	for range 300 {
		l := anyEvents(rnd, rnd.Intn(50))
		whole := mustBuild(t, l)
		for many := range len(l) + 1 {
			var want []api.Story
			for place, v := range l[:many] {
				if v.Kind == api.EventBegin {
					want = append(want, cut(whole[len(want)], l[place+1:many]))
				}
			}
			wantBuild(t, l[:many], want...)
		}
	}
}

// cut is a story as far as it had come when those events were behind its begin.
func cut(s api.Story, behind []api.Event) api.Story {
	moves := 0
	for _, v := range behind {
		switch {
		case v.Thread != s.Thread:
		case v.Kind == api.EventCommit || v.Kind == api.EventAbort:
			return s
		default:
			moves++
		}
	}
	return api.Story{Thread: s.Thread, Stamp: s.Stamp, Begin: s.Begin, Opens: s.Opens, Moves: s.Moves[:moves]}
}

// A thread's own events make its stories.
func TestBuildOfOneThread(t *testing.T) {
	rnd := rand.New(rand.NewSource(2170))
	for range 1000 {
		l := anyEvents(rnd, rnd.Intn(60))
		whole := mustBuild(t, l)
		for thread := 1; thread <= 8; thread++ {
			own := slices.DeleteFunc(slices.Clone(l), func(v api.Event) bool { return v.Thread != thread })
			want := slices.DeleteFunc(slices.Clone(whole), func(s api.Story) bool { return s.Thread != thread })
			wantBuild(t, own, want...)
		}
	}
}

func TestSlotsChangeNothing(t *testing.T) {
	rnd := rand.New(rand.NewSource(2171))
	found := 0
	for range 1000 {
		l := anyEvents(rnd, rnd.Intn(60))
		less := slices.DeleteFunc(slices.Clone(l), func(v api.Event) bool { return v.Kind == api.EventSlots })
		found += len(l) - len(less)
		wantBuild(t, less, mustBuild(t, l)...)
	}
	if found < 1000 {
		t.Error("too little was tried", found)
	}
}
