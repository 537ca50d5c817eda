package sched_test

import (
	"bytes"
	"math"
	"math/rand"
	"runtime"
	"slices"
	"sync"
	"sync/atomic"
	"testing"
	"time"

	"quash/api"
	"quash/sched"
)

// mark writes marks as the document does: number, thread, answer.
func mark(pick, thread, answer int) api.Mark {
	return api.Mark{Pick: pick, Thread: thread, Answer: answer}
}

func sameMarks(t *testing.T, what string, got []api.Mark, e api.Errno, want ...api.Mark) {
	t.Helper()
	if e != api.OK || !slices.Equal(got, want) {
		t.Errorf("%s: %v, %v; not %v", what, got, e, want)
	}
}

func refused(t *testing.T, what string, got []api.Mark, e, want api.Errno) {
	t.Helper()
	if len(got) != 0 || e != want {
		t.Errorf("%s: %v, %v; not %v alone", what, got, e, want)
	}
}

// steps counts which threads it is called for, and never ends.
func steps(called *[]int) func(int) int {
	return func(thread int) int {
		*called = append(*called, thread)
		return api.Ran
	}
}

func threadsOf(marks []api.Mark) []int {
	var l []int
	for _, m := range marks {
		l = append(l, m.Thread)
	}
	return l
}

func TestRunRefuses(t *testing.T) { // P4.1
	called := 0
	step := func(int) int { called++; return api.Ran }
	many := make([]int, api.MaxPicks+1)
	for _, x := range []struct {
		threads int
		step    func(int) int
		picks   []int
		drain   int
		want    api.Errno
	}{
		{0, step, nil, 0, api.ErrArg},
		{-1, step, []int{0}, 1, api.ErrArg},
		{math.MinInt, step, []int{0}, 1, api.ErrArg},
		{api.MaxThreads + 1, step, []int{0}, 1, api.ErrArg},
		{math.MaxInt, step, []int{0}, 1, api.ErrArg},
		{1, nil, []int{0}, 1, api.ErrArg},
		{1, step, []int{0}, -1, api.ErrArg},
		{1, step, []int{0}, math.MinInt, api.ErrArg},
		{1, step, []int{0}, api.MaxPicks + 1, api.ErrArg},
		{1, step, []int{0}, math.MaxInt, api.ErrArg},
		{1, step, many, 0, api.ErrMany},
		{api.MaxThreads, step, many, api.MaxPicks, api.ErrMany},
		// where both apply, ErrArg is named first
		{0, step, many, 0, api.ErrArg},
		{9, step, many, 0, api.ErrArg},
		{1, nil, many, 0, api.ErrArg},
		{1, step, many, -1, api.ErrArg},
		{1, step, many, api.MaxPicks + 1, api.ErrArg},
	} {
		got, e := sched.Run(x.threads, x.step, x.picks, x.drain)
		refused(t, "Run", got, e, x.want)
	}
	if called != 0 {
		t.Errorf("refused, and yet %d steps", called)
	}
}

func TestRunTakesTheLimits(t *testing.T) { // P4.1
	picks := make([]int, api.MaxPicks)
	for i := range picks {
		picks[i] = i
	}
	calls := 0
	got, e := sched.Run(api.MaxThreads, func(int) int { calls++; return calls + 4 }, picks, api.MaxPicks)
	if e != api.OK || len(got) != 2*api.MaxPicks || calls != 2*api.MaxPicks {
		t.Fatal(len(got), e, calls)
	}
	for i, m := range got {
		if m != mark(i+1, i%api.MaxThreads+1, i+5) {
			t.Fatal(i, m)
		}
	}
	got, e = sched.Run(1, func(int) int { return api.Ran }, nil, 0)
	sameMarks(t, "Run of nothing", got, e)
}

func TestPicksCountRound(t *testing.T) { // P4.1
	for _, x := range []struct {
		threads, pick, thread int
	}{
		{3, 0, 1}, {3, 1, 2}, {3, 2, 3}, {3, 3, 1}, {3, 4, 2}, {3, 300, 1},
		{3, -1, 3}, {3, -2, 2}, {3, -3, 1}, {3, -4, 3}, {3, -300, 1},
		{1, 0, 1}, {1, 5, 1}, {1, -5, 1},
		{8, 7, 8}, {8, 8, 1}, {8, -8, 1}, {8, -9, 8},
		{8, math.MaxInt, 8}, {8, math.MinInt, 1}, // 2^63 - 1 and -2^63
		{3, math.MaxInt, 2}, {3, math.MinInt, 2},
		{5, math.MaxInt, 3}, {5, math.MinInt, 3},
		{1, math.MinInt, 1},
	} {
		var called []int
		got, e := sched.Run(x.threads, steps(&called), []int{x.pick}, 0)
		sameMarks(t, "Run", got, e, mark(1, x.thread, api.Ran))
		if !slices.Equal(called, []int{x.thread}) {
			t.Errorf("%v: step was called for %v", x, called)
		}
		turns, e := sched.Turns(x.threads, []int{x.pick}, 0)
		if e != api.OK || !slices.Equal(turns, []int{x.thread}) {
			t.Errorf("%v: Turns %v, %v", x, turns, e)
		}
	}
}

func TestStepsAreCalledOnceAPickInOrder(t *testing.T) { // P4.1
	var called []int
	got, e := sched.Run(3, steps(&called), []int{2, 2, 0, 1, -1}, 4)
	want := []int{3, 3, 1, 2, 3, 1, 2, 3, 1}
	if e != api.OK || !slices.Equal(called, want) || !slices.Equal(threadsOf(got), want) {
		t.Error(called, got, e)
	}
}

func TestAnswersAreWhatStepsAnswered(t *testing.T) { // P4.1
	answers := []int{api.None, api.Ran, api.Wait, api.Idle, 5, -4, math.MinInt, math.MaxInt, api.Ended}
	k := -1
	got, e := sched.Run(1, func(int) int { k++; return answers[k] }, make([]int, len(answers)), 3)
	if e != api.OK || len(got) != len(answers) || k != len(answers)-1 {
		t.Fatal(got, e, k)
	}
	for i, m := range got {
		if m != mark(i+1, 1, answers[i]) {
			t.Error(i, m)
		}
	}
}

func TestAnEndedThreadIsNotCalled(t *testing.T) { // P4.1
	var called []int
	got, e := sched.Run(2, func(thread int) int {
		called = append(called, thread)
		if thread == 2 {
			return api.Ended
		}
		return api.Wait
	}, []int{1, 1, 0, -1, 3}, 2)
	sameMarks(t, "Run", got, e, mark(1, 2, 4), mark(2, 2, 4), mark(3, 1, 2), mark(4, 2, 4), mark(5, 2, 4), mark(6, 1, 2), mark(7, 1, 2))
	if !slices.Equal(called, []int{2, 1, 1, 1}) {
		t.Error(called)
	}
}

func TestDrainGoesRoundThoseThatLive(t *testing.T) { // P4.1
	for _, x := range []struct {
		plans [][]int
		picks []int
		drain int
		want  []int // the threads
	}{
		{[][]int{{1}, {1}, {1}}, nil, 99, []int{1, 2, 3, 1, 2, 3}},
		{[][]int{{}, {1, 1}, {}}, nil, 99, []int{1, 2, 3, 2, 2}},
		{[][]int{{1, 1}, {}, {1, 1}}, nil, 5, []int{1, 2, 3, 1, 3}},
		{[][]int{{1, 1, 1}, {1, 1, 1}}, []int{0}, 3, []int{1, 1, 2, 1}},           // from the first one on, whoever was picked last
		{[][]int{{1, 1, 1}, {1, 1, 1}}, []int{1}, 3, []int{2, 1, 2, 1}},           // so here
		{[][]int{{}, {1, 1, 1}, {1}}, []int{0}, 4, []int{1, 2, 3, 2, 3}},          // the first one has ended
		{[][]int{{}, {}, {1}}, []int{0, 1, 0}, 9, []int{1, 2, 1, 3, 3}},           // so have two
		{[][]int{{}, {}}, []int{0, 1}, api.MaxPicks, []int{1, 2}},                 // all have
		{[][]int{{}, {}}, []int{0, 1, 1, 0}, 7, []int{1, 2, 2, 1}},                // picks fall on them still
		{[][]int{{1}, {1}}, []int{0, 1}, 0, []int{1, 2}},                          // no drain
		{[][]int{{1, 1}, {1, 1}}, nil, 1, []int{1}},                               // just one
		{[][]int{{1, 1, 1}, {}, {}, {1}}, nil, 99, []int{1, 2, 3, 4, 1, 4, 1, 1}}, // the last one ends, then round to the first
	} {
		got, e := sched.Play(x.plans, x.picks, x.drain)
		if e != api.OK || !slices.Equal(threadsOf(got), x.want) {
			t.Errorf("%v: %v, %v", x, got, e)
		}
	}
}

// goroutine is the number of the goroutine that asks.
func goroutine() string {
	b := make([]byte, 64)
	return string(bytes.Fields(b[:runtime.Stack(b, false)])[1])
}

func TestEachThreadIsAGoroutine(t *testing.T) { // P4.2
	whose := map[string]int{goroutine(): 0}
	of := map[int]string{}
	picks := []int{0, 1, 1, 2, 0, 7, 6, 5, 4, 3, 3, -1}
	_, e := sched.Run(8, func(thread int) int {
		g := goroutine()
		if n, ok := whose[g]; ok && n != thread {
			t.Errorf("a goroutine goes for %d and %d", n, thread)
		}
		if was, ok := of[thread]; ok && was != g {
			t.Errorf("thread %d goes by two goroutines", thread)
		}
		whose[g], of[thread] = thread, g
		return api.Ran
	}, picks, 20)
	if e != api.OK || len(of) != 8 || len(whose) != 9 {
		t.Error(e, len(of), len(whose))
	}
}

func TestNoTwoGoOnAtOneTime(t *testing.T) { // P4.2
	var busy, worst, total atomic.Int32
	got, e := sched.Run(8, func(int) int {
		worst.Store(max(worst.Load(), busy.Add(1)))
		runtime.Gosched()
		total.Add(1)
		busy.Add(-1)
		return api.Ran
	}, make([]int, 100), 2000)
	if e != api.OK || len(got) != 2100 || worst.Load() != 1 || total.Load() != 2100 || busy.Load() != 0 {
		t.Error(e, len(got), worst.Load(), total.Load(), busy.Load())
	}
}

// settled says whether there come to be so many goroutines at most: one that has said that it is done may be about to go still.
func settled(most int) bool {
	for range 1000 {
		if runtime.NumGoroutine() <= most {
			return true
		}
		time.Sleep(time.Millisecond)
	}
	return false
}

func TestAllThreadsHaveEnded(t *testing.T) { // P4.2
	before := runtime.NumGoroutine()
	most := 0
	for i := range 200 {
		_, e := sched.Run(8, func(int) int {
			most = max(most, runtime.NumGoroutine())
			return api.Ran + 3*(i%2) // some end by themselves, some do not
		}, []int{0, 3}, 5)
		if e != api.OK {
			t.Fatal(e)
		}
	}
	if most < before+8 {
		t.Errorf("%d goroutines at most, %d before: a thread is none", most, before)
	}
	sched.Run(8, func(int) int { return 1 }, nil, 0)
	sched.Run(9, func(int) int { return 1 }, nil, 0)
	if !settled(before) {
		t.Errorf("%d goroutines, %d before", runtime.NumGoroutine(), before)
	}
}

func TestRunRestsTillAllHaveEnded(t *testing.T) { // P4.2
	// One at a time, a goroutine that has said that it is done has gone ahead of Run's answer; one that nobody waits for has not.
	defer runtime.GOMAXPROCS(runtime.GOMAXPROCS(1))
	before := runtime.NumGoroutine()
	clean := 0
	for range 100 {
		sched.Run(8, func(int) int { return api.Ran }, []int{0, 1}, 3)
		if runtime.NumGoroutine() <= before {
			clean++
		}
		settled(before)
	}
	if clean < 50 {
		t.Errorf("threads were left behind in %d of 100 runs", 100-clean)
	}
}

func TestRunsDoNotDisturbOneAnother(t *testing.T) { // R4
	plans := [][]int{{1, 2, 3}, {3, 2}, {5, 1, 1, 1}}
	picks := []int{2, 0, 1, 1, -1, 4}
	want, _ := sched.Play(plans, picks, 20)
	var group sync.WaitGroup
	for range 16 {
		group.Go(func() {
			for range 20 {
				if got, e := sched.Play(plans, picks, 20); e != api.OK || !slices.Equal(got, want) {
					t.Error(got, e)
				}
			}
		})
	}
	group.Wait()
	var inner []api.Mark
	outer, e := sched.Run(2, func(thread int) int { // a run within a run
		inner, _ = sched.Play(plans, picks, 20)
		return thread
	}, []int{1, 0}, 0)
	sameMarks(t, "Run", outer, e, mark(1, 2, 2), mark(2, 1, 1))
	sameMarks(t, "Play within it", inner, api.OK, want...)
}

func TestPlayTellsThePlans(t *testing.T) { // P4.3
	got, e := sched.Play([][]int{{7, 8, 9}, {-1}, nil}, []int{0, 1, 0, 1, 0, 2, 0, 0}, 5)
	sameMarks(t, "Play", got, e, mark(1, 1, 7), mark(2, 2, -1), mark(3, 1, 8), mark(4, 2, 4), mark(5, 1, 9), mark(6, 3, 4), mark(7, 1, 4), mark(8, 1, 4))
	got, e = sched.Play([][]int{{1, 4, 1}, {2}}, []int{0, 0, 0, 1, 0}, 9) // an Ended within a plan ends it
	sameMarks(t, "Play", got, e, mark(1, 1, 1), mark(2, 1, 4), mark(3, 1, 4), mark(4, 2, 2), mark(5, 1, 4), mark(6, 2, 4))
	eight := make([][]int, api.MaxThreads)
	got, e = sched.Play(eight, []int{-1}, 0)
	sameMarks(t, "Play of eight", got, e, mark(1, 8, 4))
}

func TestPlayRefuses(t *testing.T) { // P4.3
	one := [][]int{{1}}
	many := make([]int, api.MaxPicks+1)
	for _, x := range []struct {
		plans [][]int
		picks []int
		drain int
		want  api.Errno
	}{
		{nil, nil, 0, api.ErrArg},
		{[][]int{}, []int{0}, 1, api.ErrArg},
		{make([][]int, api.MaxThreads+1), []int{0}, 1, api.ErrArg},
		{make([][]int, 5000), []int{0}, 1, api.ErrArg},
		{one, nil, -1, api.ErrArg},
		{one, nil, api.MaxPicks + 1, api.ErrArg},
		{one, many, 0, api.ErrMany},
		{one, many, -1, api.ErrArg},
		{nil, many, 0, api.ErrArg},
	} {
		got, e := sched.Play(x.plans, x.picks, x.drain)
		refused(t, "Play", got, e, x.want)
	}
	if got, e := sched.Play(one, many[1:], api.MaxPicks); e != api.OK || len(got) != api.MaxPicks {
		t.Error(len(got), e)
	}
}

func TestTurns(t *testing.T) { // P4.4
	for _, x := range []struct {
		threads int
		picks   []int
		drain   int
		want    []int
	}{
		{1, nil, 0, nil},
		{1, []int{5, -5}, 2, []int{1, 1, 1, 1}},
		{2, []int{1}, 3, []int{2, 1, 2, 1}}, // the drain begins with the first one
		{3, nil, 7, []int{1, 2, 3, 1, 2, 3, 1}},
		{8, []int{-1, 8, 9}, 0, []int{8, 1, 2}},
	} {
		got, e := sched.Turns(x.threads, x.picks, x.drain)
		if e != api.OK || !slices.Equal(got, x.want) {
			t.Errorf("%v: %v, %v", x, got, e)
		}
	}
	most := make([]int, api.MaxPicks)
	got, e := sched.Turns(8, most, api.MaxPicks)
	if e != api.OK || len(got) != 2*api.MaxPicks || got[api.MaxPicks-1] != 1 || got[2*api.MaxPicks-1] != 8 {
		t.Error(len(got), e)
	}
}

func TestTurnsRefuses(t *testing.T) { // P4.4
	many := make([]int, api.MaxPicks+1)
	for _, x := range []struct {
		threads int
		picks   []int
		drain   int
		want    api.Errno
	}{
		{0, nil, 0, api.ErrArg},
		{-8, nil, 0, api.ErrArg},
		{api.MaxThreads + 1, nil, 0, api.ErrArg},
		{1, nil, -1, api.ErrArg},
		{1, nil, api.MaxPicks + 1, api.ErrArg},
		{1, nil, math.MaxInt, api.ErrArg},
		{1, many, 0, api.ErrMany},
		{0, many, 0, api.ErrArg},
		{1, many, -1, api.ErrArg},
	} {
		if got, e := sched.Turns(x.threads, x.picks, x.drain); len(got) != 0 || e != x.want {
			t.Errorf("Turns(%d, %d picks, %d): %v, %v", x.threads, len(x.picks), x.drain, got, e)
		}
	}
}

// plain is a run without threads, as the promise tells it.
func plain(plans [][]int, picks []int, drain int) []api.Mark {
	n := len(plans)
	at, over := make([]int, n), make([]bool, n)
	var marks []api.Mark
	make1 := func(k int) {
		answer := api.Ended
		if !over[k] && at[k] < len(plans[k]) {
			answer = plans[k][at[k]]
			at[k]++
		}
		over[k] = answer == api.Ended
		marks = append(marks, mark(len(marks)+1, k+1, answer))
	}
	for _, p := range picks {
		make1(((p % n) + n) % n)
	}
	for k := 0; drain > 0 && slices.Contains(over, false); k = (k + 1) % n {
		if !over[k] {
			make1(k)
			drain--
		}
	}
	return marks
}

// stepsOf are the answers of a thread's marks up to its first Ended.
func stepsOf(marks []api.Mark, thread int) []int {
	var l []int
	for _, m := range marks {
		if m.Thread == thread {
			l = append(l, m.Answer)
			if m.Answer == api.Ended {
				break
			}
		}
	}
	return l
}

func TestWhatFollows(t *testing.T) { // P4.1, P4.3, P4.5
	r := rand.New(rand.NewSource(4))
	for range 3000 {
		plans := make([][]int, 1+r.Intn(api.MaxThreads))
		for i := range plans {
			plans[i] = make([]int, r.Intn(6))
			for j := range plans[i] {
				plans[i][j] = r.Intn(7) - 1
			}
		}
		picks := make([]int, r.Intn(20))
		for i := range picks {
			picks[i] = r.Intn(41) - 20
		}
		drain := r.Intn(40)
		told := make([][]int, len(plans)+1)
		k := make([]int, len(plans)+1)
		got, e := sched.Run(len(plans), func(thread int) int {
			answer := api.Ended
			if k[thread] < len(plans[thread-1]) {
				answer = plans[thread-1][k[thread]]
			}
			k[thread]++
			told[thread] = append(told[thread], answer)
			return answer
		}, picks, drain)
		want := plain(plans, picks, drain)
		sameMarks(t, "Run", got, e, want...)
		played, e := sched.Play(plans, picks, drain)
		sameMarks(t, "Play", played, e, want...)
		ended := 0
		for thread := 1; thread <= len(plans); thread++ {
			l := stepsOf(got, thread)
			if !slices.Equal(l, told[thread]) {
				t.Errorf("thread %d answered %v, its marks tell %v", thread, told[thread], l)
			}
			if len(l) > 0 && l[len(l)-1] == api.Ended {
				ended++
			}
		}
		more := len(got) - len(picks)
		if more < 0 || more > drain || more < drain && ended < len(plans) {
			t.Errorf("%d picks, drain %d: %d marks, %d of %d have ended", len(picks), drain, len(got), ended, len(plans))
		}
		turns, _ := sched.Turns(len(plans), picks, drain)
		if len(turns) != len(picks)+drain || !slices.Equal(turns[:len(picks)], threadsOf(got[:len(picks)])) {
			t.Errorf("Turns %v beside %v", turns, got)
		}
	}
}

func TestTurnsAreThoseOfARunWithoutEnd(t *testing.T) { // P4.4
	for threads := 1; threads <= api.MaxThreads; threads++ {
		picks := []int{5, -3, 0, 17, -17, 100}
		var called []int
		sched.Run(threads, steps(&called), picks, 19)
		turns, e := sched.Turns(threads, picks, 19)
		if e != api.OK || !slices.Equal(turns, called) {
			t.Errorf("%d threads: %v beside %v", threads, turns, called)
		}
	}
}

func TestNothingHandedInIsChangedOrKept(t *testing.T) { // R3
	room := []int{0, 1, 1, -2, 77, 78}
	picks := room[:4]
	plan := []int{1, 1, 55, 56}
	plans := [][]int{plan[:2], {2}, {99}}[:2]
	a, _ := sched.Play(plans, picks, 3)
	b, _ := sched.Play(plans, picks, 3)
	turns, _ := sched.Turns(2, picks, 3)
	again, _ := sched.Turns(2, picks, 3)
	if !slices.Equal(room, []int{0, 1, 1, -2, 77, 78}) || !slices.Equal(plan, []int{1, 1, 55, 56}) || len(plans) != 2 || plans[:3][2][0] != 99 || plans[1][0] != 2 {
		t.Error("changed:", room, plan, plans[:3])
	}
	wantMarks, wantTurns := slices.Clone(b), slices.Clone(again)
	clear(a[:cap(a)])
	clear(turns[:cap(turns)])
	if !slices.Equal(b, wantMarks) || !slices.Equal(again, wantTurns) || !slices.Equal(picks, []int{0, 1, 1, -2}) {
		t.Error("shared:", b, again, picks)
	}
}

func TestExamples(t *testing.T) {
	got, e := sched.Play([][]int{{1, 1}, {2}}, []int{0, 1, 1, -2}, 3)
	sameMarks(t, "example 1", got, e, mark(1, 1, 1), mark(2, 2, 2), mark(3, 2, 4), mark(4, 1, 1), mark(5, 1, 4))
	turns, e := sched.Turns(3, []int{0, 4, -1}, 2)
	if e != api.OK || !slices.Equal(turns, []int{1, 2, 3, 1, 2}) {
		t.Error("example 2:", turns, e)
	}
	for _, x := range [][2]int{{0, 0}, {9, 0}, {1, -1}} {
		if turns, e := sched.Turns(x[0], []int{}, x[1]); len(turns) != 0 || e != api.ErrArg {
			t.Error("example 2:", x, turns, e)
		}
	}
	got, e = sched.Play([][]int{{4}}, []int{0, 0}, 9)
	sameMarks(t, "example 3", got, e, mark(1, 1, 4), mark(2, 1, 4))
}
