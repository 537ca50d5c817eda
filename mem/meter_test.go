package mem_test

import (
	"slices"
	"testing"

	"quash/api"
	"quash/mem"
)

// counts are what a meter tells beside its log.
type counts struct{ steps, done, most int }

func countsOf(m *mem.Meter) counts { return counts{m.Steps(), m.Done(), m.Most()} }

func wantCounts(t *testing.T, m *mem.Meter, want counts) {
	t.Helper()
	if got := countsOf(m); got != want {
		t.Errorf("steps, done, most: got %v, want %v", got, want)
	}
}

func wantLog(t *testing.T, m *mem.Meter, want ...api.Access) {
	t.Helper()
	if got := m.Log(); !slices.Equal(got, want) {
		t.Errorf("log: got %v, want %v", got, want)
	}
}

func newRow[T comparable](t *testing.T, m *mem.Meter, kind, n int) *mem.Row[T] {
	t.Helper()
	r, e := mem.NewRow[T](m, kind, n)
	if e != api.OK || r == nil {
		t.Fatalf("a row of %d cells: %v, %v", n, r, e)
	}
	return r
}

func loads(t *testing.T, r *mem.Row[int64], n int) {
	t.Helper()
	for range n {
		if _, e := r.Load(0); e != api.OK {
			t.Fatal(e)
		}
	}
}

// P1.1

func TestNewMeterHasCountedNothing(t *testing.T) {
	m := mem.NewMeter()
	if m == nil {
		t.Fatal("no meter")
	}
	wantCounts(t, m, counts{0, 0, 0})
	wantLog(t, m)
}

func TestAccessesAheadOfTheFirstBeginAreCounted(t *testing.T) {
	m := mem.NewMeter()
	r := newRow[int64](t, m, api.OnCell, 1)
	loads(t, r, 3)
	wantCounts(t, m, counts{0, 3, 3})
	m.Begin(1)
	wantCounts(t, m, counts{1, 0, 3})
}

func TestMostIsTheGreatestThatDoneEverWas(t *testing.T) {
	m := mem.NewMeter()
	r := newRow[int64](t, m, api.OnCell, 1)
	m.Begin(1)
	loads(t, r, 2)
	wantCounts(t, m, counts{1, 2, 2})
	m.Begin(2)
	loads(t, r, 1)
	wantCounts(t, m, counts{2, 1, 2})
	m.Begin(2)
	wantCounts(t, m, counts{3, 0, 2})
	m.Begin(1)
	loads(t, r, 4)
	wantCounts(t, m, counts{4, 4, 4})
}

func TestBeginTakesThreadsOfAnyNumber(t *testing.T) {
	const least, greatest = -1 << 63, 1<<63 - 1
	m := mem.NewMeter()
	r := newRow[int64](t, m, api.OnCell, 1)
	var want []api.Access
	for i, thread := range []int{0, -1, api.MaxThreads + 1, least, greatest} {
		m.Begin(thread)
		loads(t, r, 1)
		want = append(want, api.Access{Step: i + 1, Thread: thread, Kind: api.OnCell, Op: api.OpLoad, Ok: true})
	}
	wantCounts(t, m, counts{5, 1, 1})
	wantLog(t, m, want...)
}

// P1.2

func TestLogTellsAccessesInTheirOrder(t *testing.T) {
	m := mem.NewMeter()
	r := newRow[int64](t, m, api.OnCell, 3)
	r.Load(2)
	m.Begin(3)
	m.Begin(5)
	r.Store(1, 7)
	r.Trade(1, 6, 8)
	m.Begin(4)
	r.Trade(1, 7, 8)
	wantLog(t, m,
		api.Access{Step: 0, Thread: 0, Kind: api.OnCell, At: 2, Op: api.OpLoad, Ok: true},
		api.Access{Step: 2, Thread: 5, Kind: api.OnCell, At: 1, Op: api.OpStore, Ok: true},
		api.Access{Step: 2, Thread: 5, Kind: api.OnCell, At: 1, Op: api.OpTrade, Ok: false},
		api.Access{Step: 3, Thread: 4, Kind: api.OnCell, At: 1, Op: api.OpTrade, Ok: true},
	)
}

func TestLogIsNewMemory(t *testing.T) {
	m := mem.NewMeter()
	r := newRow[int64](t, m, api.OnCell, 1)
	loads(t, r, 3)
	first, second := m.Log(), m.Log()
	before := slices.Clone(second)
	spoil(first, api.Access{Step: -1})
	if !slices.Equal(second, before) {
		t.Error("two logs share memory")
	}
	wantLog(t, m, before...)
	loads(t, r, 1)
	if !slices.Equal(second, before) {
		t.Error("a log changes behind its answer")
	}
}

// spoil writes over a list and its spare room.
func spoil[T any](l []T, x T) {
	for i := range cap(l) {
		l[:cap(l)][i] = x
	}
}

// P1.3

func TestNilMeterCountsNothing(t *testing.T) {
	var m *mem.Meter
	r := newRow[int64](t, m, api.OnCell, 2)
	m.Begin(1)
	loads(t, r, 1)
	if e := r.Store(1, 4); e != api.OK {
		t.Error(e)
	}
	if x, done, e := r.Trade(1, 4, 5); x != 4 || !done || e != api.OK {
		t.Error(x, done, e)
	}
	m.Begin(2)
	wantCounts(t, m, counts{0, 0, 0})
	wantLog(t, m)
	if got := r.All(); !slices.Equal(got, []int64{0, 5}) {
		t.Error(got)
	}
}

// R4

func TestMetersDoNotDisturbOneAnother(t *testing.T) {
	m, other := mem.NewMeter(), mem.NewMeter()
	r := newRow[int64](t, m, api.OnCell, 1)
	rest := newRow[int64](t, other, api.OnGate, 1)
	m.Begin(1)
	loads(t, r, 2)
	wantCounts(t, other, counts{0, 0, 0})
	wantLog(t, other)
	other.Begin(2)
	loads(t, rest, 1)
	wantCounts(t, m, counts{1, 2, 2})
	if n := len(m.Log()); n != 2 {
		t.Error(n)
	}
	wantLog(t, other, api.Access{Step: 1, Thread: 2, Kind: api.OnGate, Op: api.OpLoad, Ok: true})
}
