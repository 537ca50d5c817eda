package gate_test

import (
	"math"
	"slices"
	"testing"

	"quash/api"
	"quash/gate"
	"quash/mem"
)

// P5.1

func TestNewIsHeldByNobody(t *testing.T) {
	for _, m := range []*mem.Meter{nil, mem.NewMeter()} {
		g := gate.New(m)
		wantNow(t, g, 0, 0)
		wantLog(t, m)
	}
}

func TestNowIsNoAccess(t *testing.T) {
	m := mem.NewMeter()
	g := gate.New(m)
	take(t, g, 4, 1)
	m.Begin(2)
	for range 3 {
		wantNow(t, g, 1, 4)
	}
	if m.Done() != 0 || len(m.Log()) != 1 {
		t.Error(m.Done(), m.Log())
	}
}

// P5.2

func TestLookIsOneLoad(t *testing.T) {
	m := mem.NewMeter()
	g := gate.New(m)
	m.Begin(6)
	wantLook(t, g, 0, 0)
	m.Begin(7)
	take(t, g, 7, 1)
	m.Begin(6)
	wantLook(t, g, 1, 7)
	m.Begin(7)
	give(t, g, 7)
	m.Begin(6)
	wantLook(t, g, 2, 0)
	wantLook(t, g, 2, 0)
	if m.Steps() != 5 || m.Done() != 2 || m.Most() != 2 {
		t.Error(m.Steps(), m.Done(), m.Most())
	}
	wantLog(t, m,
		api.Access{Step: 1, Thread: 6, Kind: api.OnGate, Op: api.OpLoad, Ok: true},
		api.Access{Step: 2, Thread: 7, Kind: api.OnGate, Op: api.OpTrade, Ok: true},
		api.Access{Step: 3, Thread: 6, Kind: api.OnGate, Op: api.OpLoad, Ok: true},
		api.Access{Step: 4, Thread: 7, Kind: api.OnGate, Op: api.OpTrade, Ok: true},
		api.Access{Step: 5, Thread: 6, Kind: api.OnGate, Op: api.OpLoad, Ok: true},
		api.Access{Step: 5, Thread: 6, Kind: api.OnGate, Op: api.OpLoad, Ok: true},
	)
}

// P5.3

func TestTakeByEachThread(t *testing.T) {
	for thread := 1; thread <= api.MaxThreads; thread++ {
		m := mem.NewMeter()
		g := gate.New(m)
		take(t, g, thread, 1)
		wantNow(t, g, 1, thread)
		wantLog(t, m, trade(true))
	}
}

func TestTakeOfWhatIsHeld(t *testing.T) {
	for owner := 1; owner <= api.MaxThreads; owner++ {
		for thread := 1; thread <= api.MaxThreads; thread++ {
			m := mem.NewMeter()
			g := gate.New(m)
			take(t, g, owner, 1)
			if n, e := g.Take(thread); n != 0 || e != api.ErrHeld {
				t.Error(owner, thread, n, e)
			}
			wantNow(t, g, 1, owner)
			wantLog(t, m, trade(true), trade(false))
		}
	}
}

func TestTakeRefusesThreads(t *testing.T) {
	for _, thread := range noThreads() {
		m := mem.NewMeter()
		g := gate.New(m)
		if n, e := g.Take(thread); n != 0 || e != api.ErrArg {
			t.Error(thread, n, e)
		}
		wantNow(t, g, 0, 0)
		take(t, g, 8, 1)
		if n, e := g.Take(thread); n != 0 || e != api.ErrArg {
			t.Error(thread, n, e)
		}
		wantNow(t, g, 1, 8)
		wantLog(t, m, trade(true))
	}
}

// P5.4

func TestGiveByEachThread(t *testing.T) {
	for thread := 1; thread <= api.MaxThreads; thread++ {
		m := mem.NewMeter()
		g := gate.New(m)
		take(t, g, thread, 1)
		give(t, g, thread)
		wantNow(t, g, 2, 0)
		wantLog(t, m, trade(true), trade(true))
	}
}

func TestGiveOfWhatIsAnothers(t *testing.T) {
	for owner := 1; owner <= api.MaxThreads; owner++ {
		for thread := 1; thread <= api.MaxThreads; thread++ {
			if thread == owner {
				continue
			}
			m := mem.NewMeter()
			g := gate.New(m)
			take(t, g, owner, 1)
			if e := g.Give(thread); e != api.ErrState {
				t.Error(owner, thread, e)
			}
			wantNow(t, g, 1, owner)
			wantLog(t, m, trade(true), trade(false))
			give(t, g, owner)
		}
	}
}

func TestGiveOfWhatNobodyHolds(t *testing.T) {
	for thread := 1; thread <= api.MaxThreads; thread++ {
		m := mem.NewMeter()
		g := gate.New(m)
		if e := g.Give(thread); e != api.ErrState {
			t.Error(thread, e)
		}
		wantNow(t, g, 0, 0)
		take(t, g, thread, 1)
		give(t, g, thread)
		if e := g.Give(thread); e != api.ErrState {
			t.Error(thread, e)
		}
		wantNow(t, g, 2, 0)
		wantLog(t, m, trade(false), trade(true), trade(true), trade(false))
	}
}

func TestGiveRefusesThreads(t *testing.T) {
	for _, thread := range noThreads() {
		m := mem.NewMeter()
		g := gate.New(m)
		if e := g.Give(thread); e != api.ErrArg {
			t.Error(thread, e)
		}
		wantNow(t, g, 0, 0)
		take(t, g, 1, 1)
		if e := g.Give(thread); e != api.ErrArg {
			t.Error(thread, e)
		}
		wantNow(t, g, 1, 1)
		wantLog(t, m, trade(true))
	}
}

// P5.5

func TestNumberIsNeverAgainWhatItWas(t *testing.T) {
	g := gate.New(nil)
	for n := 0; n < 2000; n += 2 {
		thread := n/2%api.MaxThreads + 1
		take(t, g, thread, n+1)
		wantLook(t, g, n+1, thread)
		give(t, g, thread)
		wantLook(t, g, n+2, 0)
	}
}

// TestEveryOrderOfCalls holds the gate against a plain one, by all orders of six calls of three threads.
func TestEveryOrderOfCalls(t *testing.T) {
	const calls, length = 6, 6
	for order := range calls * calls * calls * calls * calls * calls {
		m := mem.NewMeter()
		g := gate.New(m)
		var now api.Gate
		var log []api.Access
		for rest, i := order, 0; i < length; rest, i = rest/calls, i+1 {
			thread, gives := rest%calls/2+1, rest%2 == 1
			next, want := plain(now, thread, gives)
			n, e := call(g, thread, gives)
			if !gives && want == api.OK && n != next.Number || (gives || want != api.OK) && n != 0 || e != want || g.Now() != next {
				t.Fatal(order, i, n, e, g.Now(), next)
			}
			now, log = next, append(log, trade(want == api.OK))
		}
		if !slices.Equal(m.Log(), log) {
			t.Fatal(order, m.Log())
		}
	}
}

func TestGatesHaveNothingInCommon(t *testing.T) {
	m := mem.NewMeter()
	a, b := gate.New(m), gate.New(m)
	take(t, a, 1, 1)
	take(t, b, 2, 1)
	give(t, b, 2)
	wantNow(t, a, 1, 1)
	wantNow(t, b, 2, 0)
	wantLog(t, m, trade(true), trade(true), trade(true))
}

func TestNilMeter(t *testing.T) {
	g := gate.New(nil)
	take(t, g, 3, 1)
	if n, e := g.Take(2); n != 0 || e != api.ErrHeld {
		t.Error(n, e)
	}
	if e := g.Give(2); e != api.ErrState {
		t.Error(e)
	}
	wantLook(t, g, 1, 3)
	give(t, g, 3)
	wantLook(t, g, 2, 0)
}

// The chapter's examples

func TestExamples(t *testing.T) {
	m := mem.NewMeter()
	g := gate.New(m)
	wantNow(t, g, 0, 0)
	take(t, g, 3, 1)
	wantNow(t, g, 1, 3)
	for _, thread := range []int{3, 2} {
		if n, e := g.Take(thread); n != 0 || e != api.ErrHeld {
			t.Error(thread, n, e)
		}
	}
	if e := g.Give(2); e != api.ErrState {
		t.Error(e)
	}
	give(t, g, 3)
	wantNow(t, g, 2, 0)
	if e := g.Give(3); e != api.ErrState {
		t.Error(e)
	}
	take(t, g, 2, 3)
	for _, thread := range []int{0, 9} {
		if n, e := g.Take(thread); n != 0 || e != api.ErrArg {
			t.Error(thread, n, e)
		}
	}
	if e := g.Give(-1); e != api.ErrArg {
		t.Error(e)
	}
	wantLog(t, m, trade(true), trade(false), trade(false), trade(false), trade(true), trade(false), trade(true))
}

// plain is what the chapter's words make of a gate, and what the call answers.
func plain(now api.Gate, thread int, gives bool) (api.Gate, api.Errno) {
	odd := now.Number%2 == 1
	switch {
	case !gives && odd:
		return now, api.ErrHeld
	case !gives:
		return api.Gate{Number: now.Number + 1, Owner: thread}, api.OK
	case !odd || now.Owner != thread:
		return now, api.ErrState
	}
	return api.Gate{Number: now.Number + 1}, api.OK
}

func call(g *gate.Gate, thread int, gives bool) (int, api.Errno) {
	if gives {
		return 0, g.Give(thread)
	}
	return g.Take(thread)
}

func noThreads() []int {
	return []int{0, -1, api.MaxThreads + 1, math.MinInt, math.MaxInt}
}

// trade is one ahead of every step.
func trade(ok bool) api.Access {
	return api.Access{Kind: api.OnGate, Op: api.OpTrade, Ok: ok}
}

func take(t *testing.T, g *gate.Gate, thread, want int) {
	t.Helper()
	if n, e := g.Take(thread); n != want || e != api.OK {
		t.Error(thread, n, e, "want", want)
	}
}

func give(t *testing.T, g *gate.Gate, thread int) {
	t.Helper()
	if e := g.Give(thread); e != api.OK {
		t.Error(thread, e)
	}
}

func wantNow(t *testing.T, g *gate.Gate, number, owner int) {
	t.Helper()
	if got := g.Now(); got != (api.Gate{Number: number, Owner: owner}) {
		t.Error("now", got, "want", number, owner)
	}
}

func wantLook(t *testing.T, g *gate.Gate, number, owner int) {
	t.Helper()
	if got := g.Look(); got != (api.Gate{Number: number, Owner: owner}) {
		t.Error("look", got, "want", number, owner)
	}
}

func wantLog(t *testing.T, m *mem.Meter, want ...api.Access) {
	t.Helper()
	if got := m.Log(); !slices.Equal(got, want) {
		t.Error("log", got, "want", want)
	}
}
