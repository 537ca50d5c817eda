package mem_test

import (
	"math"
	"slices"
	"testing"

	"quash/api"
	"quash/mem"
)

const (
	leastInt    = -1 << 63
	greatestInt = 1<<63 - 1
)

// P1.4

func TestNewRowHasZeroValues(t *testing.T) {
	for _, n := range []int{1, 2, api.MaxRow} {
		m := mem.NewMeter()
		r := newRow[int64](t, m, api.OnCell, n)
		if r.Len() != n || !slices.Equal(r.All(), make([]int64, n)) {
			t.Error(n, r.Len())
		}
		for _, i := range []int{0, n - 1} {
			if x, e := r.Load(i); x != 0 || e != api.OK {
				t.Error(n, i, x, e)
			}
		}
		wantCounts(t, m, counts{0, 2, 2})
	}
}

func TestNewRowRefusesNumbersOfCells(t *testing.T) {
	for _, n := range []int{0, -1, leastInt, api.MaxRow + 1, greatestInt} {
		m := mem.NewMeter()
		if r, e := mem.NewRow[int64](m, api.OnCell, n); r != nil || e != api.ErrArg {
			t.Error(n, r, e)
		}
		if r, e := mem.NewRow[api.Head](nil, api.OnHead, n); r != nil || e != api.ErrArg {
			t.Error(n, r, e)
		}
		wantCounts(t, m, counts{0, 0, 0})
		wantLog(t, m)
	}
}

func TestRowsHaveAnyKind(t *testing.T) {
	m := mem.NewMeter()
	var want []api.Access
	for _, kind := range []int{api.OnNothing, api.OnWord, -7, 99, leastInt, greatestInt} {
		loads(t, newRow[int64](t, m, kind, 1), 1)
		want = append(want, api.Access{Kind: kind, Op: api.OpLoad, Ok: true})
	}
	wantLog(t, m, want...)
}

func TestRowsOfOneMeter(t *testing.T) {
	m := mem.NewMeter()
	cells := newRow[int64](t, m, api.OnCell, 2)
	heads := newRow[api.Head](t, m, api.OnHead, 1)
	more := newRow[int64](t, m, api.OnCell, 2)
	m.Begin(1)
	cells.Store(1, 5)
	heads.Store(0, api.Head{Gen: 1})
	more.Load(1)
	wantCounts(t, m, counts{1, 3, 3})
	wantLog(t, m,
		api.Access{Step: 1, Thread: 1, Kind: api.OnCell, At: 1, Op: api.OpStore, Ok: true},
		api.Access{Step: 1, Thread: 1, Kind: api.OnHead, At: 0, Op: api.OpStore, Ok: true},
		api.Access{Step: 1, Thread: 1, Kind: api.OnCell, At: 1, Op: api.OpLoad, Ok: true},
	)
	if !slices.Equal(cells.All(), []int64{0, 5}) || !slices.Equal(more.All(), []int64{0, 0}) {
		t.Error("rows of one meter share cells")
	}
}

// P1.5

func TestLoadAndStore(t *testing.T) {
	r := newRow[int64](t, mem.NewMeter(), api.OnCell, 3)
	for i, x := range []int64{math.MinInt64, 0, math.MaxInt64} {
		if e := r.Store(i, x); e != api.OK {
			t.Error(i, e)
		}
	}
	for i, want := range []int64{math.MinInt64, 0, math.MaxInt64} {
		if x, e := r.Load(i); x != want || e != api.OK {
			t.Error(i, x, e)
		}
	}
}

func TestTrade(t *testing.T) {
	m := mem.NewMeter()
	r := newRow[int64](t, m, api.OnCell, 2)
	steps := []struct {
		at, old, x int
		held       int64
		done       bool
	}{
		{1, 0, 7, 0, true},
		{1, 0, 8, 7, false},
		{1, 7, 7, 7, true},
		{1, 7, 9, 7, true},
		{0, 9, 1, 0, false},
		{0, 0, 2, 0, true},
	}
	for i, s := range steps {
		held, done, e := r.Trade(s.at, int64(s.old), int64(s.x))
		if held != s.held || done != s.done || e != api.OK {
			t.Error(i, held, done, e)
		}
		l := m.Log()
		if len(l) != i+1 || l[i] != (api.Access{At: s.at, Kind: api.OnCell, Op: api.OpTrade, Ok: s.done}) {
			t.Error(i, l)
		}
	}
	if got := r.All(); !slices.Equal(got, []int64{2, 9}) {
		t.Error(got)
	}
}

func TestPlacesThatAreNot(t *testing.T) {
	for _, n := range []int{1, 2, api.MaxRow} {
		m := mem.NewMeter()
		r := newRow[int64](t, m, api.OnCell, n)
		r.Fill([]int64{6})
		before := r.All()
		m.Begin(1)
		for _, i := range []int{-1, leastInt, n, n + 1, greatestInt} {
			if x, e := r.Load(i); x != 0 || e != api.ErrPlace {
				t.Error(n, i, x, e)
			}
			if e := r.Store(i, 3); e != api.ErrPlace {
				t.Error(n, i, e)
			}
			for _, old := range []int64{0, 6} {
				if x, done, e := r.Trade(i, old, 3); x != 0 || done || e != api.ErrPlace {
					t.Error(n, i, x, done, e)
				}
			}
		}
		wantCounts(t, m, counts{1, 0, 0})
		wantLog(t, m)
		if !slices.Equal(r.All(), before) {
			t.Error(n, "a refused call changes a cell")
		}
	}
}

func TestRowOfStructs(t *testing.T) {
	m := mem.NewMeter()
	r := newRow[api.Head](t, m, api.OnHead, 2)
	live := api.Head{Gen: 1, State: api.Live, Stamp: 4, Thread: 2}
	doomed := live
	doomed.Doomed, doomed.By = true, 3
	if h, done, e := r.Trade(1, api.Head{}, live); h != (api.Head{}) || !done || e != api.OK {
		t.Error(h, done, e)
	}
	other := live
	other.By = 1
	if h, done, e := r.Trade(1, other, doomed); h != live || done || e != api.OK {
		t.Error(h, done, e)
	}
	if h, done, e := r.Trade(1, live, doomed); h != live || !done || e != api.OK {
		t.Error(h, done, e)
	}
	if h, e := r.Load(1); h != doomed || e != api.OK {
		t.Error(h, e)
	}
	if h, done, e := r.Trade(2, api.Head{}, live); h != (api.Head{}) || done || e != api.ErrPlace {
		t.Error(h, done, e)
	}
	if h, e := r.Load(-1); h != (api.Head{}) || e != api.ErrPlace {
		t.Error(h, e)
	}
	if got := r.All(); !slices.Equal(got, []api.Head{{}, doomed}) {
		t.Error(got)
	}
	wantCounts(t, m, counts{0, 4, 4})
}

func TestRowsOfArraysAndTexts(t *testing.T) {
	sigs := newRow[api.Sig](t, nil, api.OnWord, 1)
	if _, done, _ := sigs.Trade(0, api.Sig{0, 1}, api.Sig{2, 0}); done {
		t.Error("a trade of a signature that is another one")
	}
	if x, done, _ := sigs.Trade(0, api.Sig{}, api.Sig{2, 0}); x != (api.Sig{}) || !done {
		t.Error(x, done)
	}
	texts := newRow[string](t, nil, api.OnCell, 1)
	texts.Store(0, "a")
	if x, done, _ := texts.Trade(0, "a", "b"); x != "a" || !done {
		t.Error(x, done)
	}
}

// What the language says is not the same is not, though it looks so.
func TestTradeComparesAsTheLanguageDoes(t *testing.T) {
	r := newRow[float64](t, nil, api.OnCell, 1)
	r.Store(0, math.NaN())
	if x, done, e := r.Trade(0, math.NaN(), 1); !math.IsNaN(x) || done || e != api.OK {
		t.Error(x, done, e)
	}
}

// R1: interfaces are comparable, what they hold may be not.
func TestTradeOfWhatCannotBeComparedIsNotDone(t *testing.T) {
	m := mem.NewMeter()
	r := newRow[any](t, m, api.OnCell, 1)
	r.Store(0, []int{1})
	held, done, e := r.Trade(0, []int{1}, 5)
	if l, ok := held.([]int); !ok || len(l) != 1 || done || e != api.OK {
		t.Error(held, done, e)
	}
	if _, done, e := r.Trade(0, 4, 5); done || e != api.OK {
		t.Error(done, e)
	}
	if x, _ := r.Load(0); len(x.([]int)) != 1 {
		t.Error(x)
	}
	if l := m.Log(); len(l) != 4 || l[1].Op != api.OpTrade || l[1].Ok || l[2].Ok {
		t.Error(l)
	}
	r.Store(0, 4)
	if x, done, e := r.Trade(0, 4, "x"); x != 4 || !done || e != api.OK {
		t.Error(x, done, e)
	}
}

// P1.6

func TestFill(t *testing.T) {
	m := mem.NewMeter()
	r := newRow[int64](t, m, api.OnCell, 3)
	m.Begin(1)
	for _, c := range []struct {
		fill, want []int64
		e          api.Errno
	}{
		{[]int64{1, 2, 3}, []int64{1, 2, 3}, api.OK},
		{nil, []int64{1, 2, 3}, api.OK},
		{[]int64{}, []int64{1, 2, 3}, api.OK},
		{[]int64{7}, []int64{7, 2, 3}, api.OK},
		{[]int64{8, 0}, []int64{8, 0, 3}, api.OK},
		{[]int64{4, 5, 6, 9}, []int64{8, 0, 3}, api.ErrMany},
		{make([]int64, api.MaxRow+1), []int64{8, 0, 3}, api.ErrMany},
	} {
		if e := r.Fill(c.fill); e != c.e || !slices.Equal(r.All(), c.want) || r.Len() != 3 {
			t.Error(c.fill, e, r.All())
		}
	}
	wantCounts(t, m, counts{1, 0, 0})
	wantLog(t, m)
	if x, e := r.Load(2); x != 3 || e != api.OK {
		t.Error(x, e)
	}
}

func TestFillOfTheLongestRow(t *testing.T) {
	r := newRow[int64](t, nil, api.OnCell, api.MaxRow)
	l := make([]int64, api.MaxRow)
	for i := range l {
		l[i] = int64(i) * 3
	}
	if e := r.Fill(l); e != api.OK || !slices.Equal(r.All(), l) {
		t.Error(e)
	}
	if x, e := r.Load(api.MaxRow - 1); x != 3*(api.MaxRow-1) || e != api.OK {
		t.Error(x, e)
	}
}

func TestFillNeitherKeepsNorChangesWhatIsHandedIn(t *testing.T) {
	r := newRow[int64](t, nil, api.OnCell, 3)
	room := []int64{1, 2, 8, 9}
	l := room[:2]
	if e := r.Fill(l); e != api.OK {
		t.Fatal(e)
	}
	r.Store(0, 5)
	r.Store(2, 6)
	if !slices.Equal(room, []int64{1, 2, 8, 9}) {
		t.Error("a list that was handed in has changed", room)
	}
	spoil(l, -1)
	if got := r.All(); !slices.Equal(got, []int64{5, 2, 6}) {
		t.Error("a list that was handed in was kept", got)
	}
}

func TestAllIsNewMemory(t *testing.T) {
	r := newRow[int64](t, nil, api.OnCell, 3)
	r.Fill([]int64{1, 2, 3})
	first, second := r.All(), r.All()
	spoil(first, -1)
	if !slices.Equal(second, []int64{1, 2, 3}) || !slices.Equal(r.All(), []int64{1, 2, 3}) {
		t.Error("answers share memory", second, r.All())
	}
	r.Store(0, 9)
	if !slices.Equal(second, []int64{1, 2, 3}) {
		t.Error("an answer changes behind its call", second)
	}
}

// P1.7

func TestLogHasTheAccessesThatWereNotRefused(t *testing.T) {
	m := mem.NewMeter()
	rows := []*mem.Row[int64]{newRow[int64](t, m, api.OnCell, 2), newRow[int64](t, m, api.OnWord, 3)}
	inStep := map[int]int{}
	steps, taken, seed := 0, 0, uint32(1)
	next := func(n uint32) int {
		seed = seed*1664525 + 1013904223
		return int((seed >> 8) % n)
	}
	for range 3000 {
		if next(7) == 0 {
			steps++
			m.Begin(next(9))
		} else if touch(rows[next(2)], next(3), next(6)-2, int64(next(3))) == api.OK {
			taken++
			inStep[steps]++
		}
		most := 0
		for _, n := range inStep {
			most = max(most, n)
		}
		if want := (counts{steps, inStep[steps], most}); countsOf(m) != want {
			t.Fatal(countsOf(m), want)
		}
	}
	checkLog(t, m, taken, inStep)
}

func touch(r *mem.Row[int64], op, at int, x int64) api.Errno {
	switch op {
	case 0:
		_, e := r.Load(at)
		return e
	case 1:
		return r.Store(at, x)
	}
	_, _, e := r.Trade(at, x, x+1)
	return e
}

func checkLog(t *testing.T, m *mem.Meter, taken int, inStep map[int]int) {
	t.Helper()
	l := m.Log()
	if len(l) != taken || taken == 0 {
		t.Error(len(l), taken)
	}
	for _, a := range l {
		inStep[a.Step]--
		if !a.Ok && a.Op != api.OpTrade {
			t.Error(a)
		}
	}
	for step, n := range inStep {
		if n != 0 {
			t.Error(step, n)
		}
	}
}

// The chapter's examples.

func TestExamples(t *testing.T) {
	m := mem.NewMeter()
	r := newRow[int64](t, m, api.OnCell, 2)
	m.Begin(3)
	if e := r.Store(1, 7); e != api.OK {
		t.Error(e)
	}
	if x, e := r.Load(1); x != 7 || e != api.OK {
		t.Error(x, e)
	}
	if x, done, e := r.Trade(1, 5, 9); x != 7 || done || e != api.OK {
		t.Error(x, done, e)
	}
	if x, done, e := r.Trade(1, 7, 9); x != 7 || !done || e != api.OK {
		t.Error(x, done, e)
	}
	wantCounts(t, m, counts{1, 4, 4})
	if l := m.Log(); l[3] != (api.Access{Step: 1, Thread: 3, Kind: api.OnCell, At: 1, Op: api.OpTrade, Ok: true}) {
		t.Error(l)
	}
	if _, e := r.Load(2); e != api.ErrPlace {
		t.Error(e)
	}
	if e := r.Store(-1, 0); e != api.ErrPlace {
		t.Error(e)
	}
	m.Begin(1)
	wantCounts(t, m, counts{2, 0, 4})
	if e := r.Fill([]int64{1, 2, 3}); e != api.ErrMany {
		t.Error(e)
	}
	for _, n := range []int{0, 4097} {
		if r, e := mem.NewRow[int64](m, api.OnCell, n); r != nil || e != api.ErrArg {
			t.Error(n, r, e)
		}
	}
}
