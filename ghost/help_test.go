package ghost_test

import (
	"math"
	"math/rand"
	"reflect"
	"slices"
	"testing"

	"quash/api"
	"quash/ghost"
)

// Events of thread 1 and stamp 1; lined gives them their steps.

func begin(gate int) api.Event {
	return api.Event{Kind: api.EventBegin, Thread: 1, Stamp: 1, Gate: gate}
}
func read(cell int, x int64, gate int) api.Event {
	return api.Event{Kind: api.EventRead, Thread: 1, Stamp: 1, Cell: cell, X: x, Gate: gate}
}
func readOwn(cell int, x int64) api.Event {
	return api.Event{Kind: api.EventRead, Thread: 1, Stamp: 1, Cell: cell, X: x, Own: true}
}
func write(cell int, x int64) api.Event {
	return api.Event{Kind: api.EventWrite, Thread: 1, Stamp: 1, Cell: cell, X: x}
}
func commit(gate int) api.Event {
	return api.Event{Kind: api.EventCommit, Thread: 1, Stamp: 1, Gate: gate}
}
func abort(e api.Errno, by int) api.Event {
	return api.Event{Kind: api.EventAbort, Thread: 1, Stamp: 1, E: e, By: by}
}
func noSlot() api.Event {
	return api.Event{Kind: api.EventSlots, Thread: 1, Stamp: 1, E: api.ErrSlots}
}

// Events with one field changed.

func of(thread int, v api.Event) api.Event       { v.Thread = thread; return v }
func withKind(v api.Event, kind int) api.Event   { v.Kind = kind; return v }
func withStep(v api.Event, step int) api.Event   { v.Step = step; return v }
func withStamp(v api.Event, stamp int) api.Event { v.Stamp = stamp; return v }

// lined has each event in the step of its place and 1.
func lined(l ...api.Event) []api.Event {
	for i := range l {
		l[i].Step = i + 1
	}
	return l
}

// edgeInts are those at which a comparison may go wrong.
func edgeInts() []int {
	return []int{math.MinInt, math.MinInt + 1, -1 << 32, -1<<32 + 1, -8, -2, -1, 0, 1 << 32, 1<<32 + 1, math.MaxInt - 1, math.MaxInt}
}

func anyInt(rnd *rand.Rand) int {
	switch rnd.Intn(3) {
	case 0:
		l := edgeInts()
		return l[rnd.Intn(len(l))]
	case 1:
		return int(rnd.Uint64())
	}
	return rnd.Intn(20) - 4
}

// noise fills the fields of an event that no promise of its kind names, and those that may be any number.
func noise(rnd *rand.Rand, v api.Event) api.Event {
	v.Cell, v.X, v.Own = rnd.Intn(5), int64(rnd.Intn(9)), rnd.Intn(2) == 0
	if rnd.Intn(4) == 0 {
		v.Cell, v.X = anyInt(rnd), int64(anyInt(rnd))
	}
	v.Gate, v.By = anyInt(rnd), anyInt(rnd)
	v.E = []api.Errno{api.OK, api.ErrDoomed, api.ErrDoomed, api.ErrYield, api.ErrProgAbort, api.Errno(anyInt(rnd))}[rnd.Intn(6)]
	return v
}

// anyEvents are so many that Build takes, of up to 8 threads, some of which rest in one step.
func anyEvents(rnd *rand.Rand, many int) []api.Event {
	threads := 1 + rnd.Intn(8)
	var l []api.Event
	stamps := make([]int, threads+1) // 0: no story is open
	step := 1 + rnd.Intn(3)
	for range many {
		thread := 1 + rnd.Intn(threads)
		v := noise(rnd, api.Event{Thread: thread, Step: step})
		switch {
		case stamps[thread] == 0 && rnd.Intn(4) == 0:
			v.Kind, v.Stamp = api.EventSlots, 1+rnd.Intn(step)
		case stamps[thread] == 0:
			v.Kind, v.Stamp = api.EventBegin, 1+rnd.Intn(step)
			stamps[thread] = v.Stamp
		default:
			v.Kind, v.Stamp = api.EventRead+[]int{0, 0, 0, 1, 1, 1, 2, 3}[rnd.Intn(8)], stamps[thread]
			if v.Kind >= api.EventCommit {
				stamps[thread] = 0
			}
		}
		l = append(l, v)
		step += []int{0, 1, 1, 1, 5}[rnd.Intn(5)]
		if rnd.Intn(200) == 0 {
			step += 1 << 40
		}
	}
	return l
}

// anyStory is any at all, also one that no events make.
func anyStory(rnd *rand.Rand) api.Story {
	s := api.Story{Thread: rnd.Intn(9), Stamp: anyInt(rnd), Begin: anyInt(rnd), End: anyInt(rnd), Fate: rnd.Intn(3), By: rnd.Intn(9), Opens: anyInt(rnd), Gate: anyInt(rnd)}
	if rnd.Intn(5) == 0 {
		s.Fate = anyInt(rnd)
	}
	s.E = []api.Errno{api.OK, api.ErrDoomed, api.ErrYield}[rnd.Intn(3)]
	for range rnd.Intn(9) {
		m := api.Move{Step: anyInt(rnd), Write: rnd.Intn(3) == 0, Cell: rnd.Intn(5) - 1, X: int64(anyInt(rnd)), Own: rnd.Intn(3) == 0, Gate: anyInt(rnd)}
		if rnd.Intn(8) == 0 {
			m.Cell = anyInt(rnd)
		}
		s.Moves = append(s.Moves, m)
	}
	return s
}

func anyStories(rnd *rand.Rand) []api.Story {
	var l []api.Story
	for range rnd.Intn(8) {
		s := anyStory(rnd)
		if rnd.Intn(2) == 0 {
			s.Gate = rnd.Intn(4) // several of one gate
		}
		l = append(l, s)
	}
	return l
}

// sameStories holds lists against each other, of which nil and empty are the same.
func sameStories(a, b []api.Story) bool { return slices.EqualFunc(a, b, sameStory) }

func sameStory(a, b api.Story) bool {
	moves := slices.Equal(a.Moves, b.Moves)
	a.Moves, b.Moves = nil, nil
	return moves && reflect.DeepEqual(a, b)
}

func mustBuild(t *testing.T, l []api.Event) []api.Story {
	t.Helper()
	got, at, e := ghost.Build(l)
	if at != 0 || e != api.OK {
		t.Fatal(l, at, e)
	}
	return got
}

func wantBuild(t *testing.T, l []api.Event, want ...api.Story) {
	t.Helper()
	if got := mustBuild(t, l); !sameStories(got, want) {
		t.Error(l, "got", got, "want", want)
	}
}

func wantNoBuild(t *testing.T, l []api.Event, place int) {
	t.Helper()
	if got, at, e := ghost.Build(l); len(got) != 0 || at != place || e != api.ErrGhostForm {
		t.Error(l, "got", got, at, e, "want", place)
	}
}

// A plain reading of the promises: each event is asked anew of all that is ahead of it.

// plainOpen is the place of the EventBegin of the thread's story that is open behind those events; -1: none is.
func plainOpen(l []api.Event, thread int) int {
	for i := len(l) - 1; i >= 0; i-- {
		if l[i].Thread != thread {
			continue
		}
		switch l[i].Kind {
		case api.EventBegin:
			return i
		case api.EventCommit, api.EventAbort, api.EventSlots:
			return -1
		}
	}
	return -1
}

// plainWrong tells whether the event at that place is wrong, if none ahead of it is.
func plainWrong(l []api.Event, place int) bool {
	v := l[place]
	if v.Kind < 1 || v.Kind > 6 || v.Thread < 1 || v.Thread > 8 || v.Step < 1 || v.Stamp < 1 || v.Stamp > v.Step {
		return true
	}
	if place > 0 && v.Step < l[place-1].Step {
		return true
	}
	open := plainOpen(l[:place], v.Thread)
	if v.Kind == 1 || v.Kind == 6 {
		return open >= 0
	}
	return open < 0 || l[open].Stamp != v.Stamp
}

// plainStory is what events make of the story whose EventBegin stands at that place.
func plainStory(l []api.Event, place int) api.Story {
	b := l[place]
	s := api.Story{Thread: b.Thread, Stamp: b.Stamp, Begin: b.Step, Opens: b.Gate}
	for _, v := range l[place+1:] {
		if v.Thread != b.Thread {
			continue
		}
		switch v.Kind {
		case api.EventRead:
			m := api.Move{Step: v.Step, Cell: v.Cell, X: v.X, Own: v.Own, Gate: v.Gate}
			if m.Own {
				m.Gate = 0
			}
			s.Moves = append(s.Moves, m)
		case api.EventWrite:
			s.Moves = append(s.Moves, api.Move{Step: v.Step, Cell: v.Cell, X: v.X, Write: true})
		case api.EventCommit:
			s.End, s.Fate, s.Gate = v.Step, api.Commits, v.Gate
			return s
		case api.EventAbort:
			s.End, s.Fate, s.E = v.Step, api.Aborts, v.E
			if v.E == api.ErrDoomed {
				s.By = v.By
			}
			return s
		}
	}
	return s
}

func plainBuild(l []api.Event) ([]api.Story, int, api.Errno) {
	for i := range l {
		if plainWrong(l, i) {
			return nil, i, api.ErrGhostForm
		}
	}
	var out []api.Story
	for i, v := range l {
		if v.Kind == api.EventBegin {
			out = append(out, plainStory(l, i))
		}
	}
	return out, 0, api.OK
}

func plainReads(s api.Story) []api.Pair {
	var l []api.Pair
	for _, m := range s.Moves {
		if !m.Write && !m.Own {
			l = append(l, api.Pair{Cell: m.Cell, X: m.X})
		}
	}
	return l
}

func plainWrites(s api.Story) []api.Pair {
	var l []api.Pair
	for i, m := range s.Moves {
		again := func(o api.Move) bool { return o.Write && o.Cell == m.Cell }
		if !m.Write || slices.ContainsFunc(s.Moves[:i], again) {
			continue
		}
		p := api.Pair{Cell: m.Cell}
		for _, o := range s.Moves {
			if again(o) {
				p.X = o.X
			}
		}
		l = append(l, p)
	}
	return l
}

func plainPoint(s api.Story) (int, int) {
	if s.Fate == 1 && len(plainWrites(s)) > 0 {
		return s.Gate, s.End
	}
	for i := len(s.Moves) - 1; i >= 0; i-- {
		if m := s.Moves[i]; !m.Write && !m.Own {
			return m.Gate, m.Step
		}
	}
	return s.Opens, s.Begin
}

// plainFinal asks of each cell for the story that wrote it last.
func plainFinal(start []int64, l []api.Story) []int64 {
	out := slices.Clone(start)
	for cell := range out {
		last, found := 0, false
		for _, s := range l {
			if s.Fate != api.Commits {
				continue
			}
			for _, p := range plainWrites(s) {
				if p.Cell == cell && (!found || s.Gate >= last) {
					last, found, out[cell] = s.Gate, true, p.X
				}
			}
		}
	}
	return out
}
