package set_test

import (
	"math"
	"math/rand"
	"slices"
	"testing"

	"quash/api"
	"quash/code"
	"quash/prog"
	"quash/set"
	"quash/space"
)

// P18.5

func TestCodeOfPlacesThatMayNotBe(t *testing.T) {
	for _, n := range setSizes() {
		room := 3 + 2*n
		for _, d := range everyDeed(1) {
			for _, base := range []int{math.MinInt, -room, -1, 256 - room + 1, 256, 257, math.MaxInt - room, math.MaxInt - room + 1, math.MaxInt, 1 << 32} {
				wantNoCode(t, base, n, d)
			}
			for _, base := range []int{0, 1, 100, 256 - room} {
				mustCode(t, base, n, d)
			}
		}
	}
}

func TestCodeOfNoSet(t *testing.T) {
	for _, n := range noSizes() {
		for _, d := range everyDeed(1) {
			wantNoCode(t, 0, n, d)
			wantNoCode(t, 10, n, d)
			wantNoCode(t, -1, n, d)
		}
	}
}

// forms are sets and deeds of all sorts.
func forms(do func(base, n int, d api.Deed)) {
	for _, n := range setSizes() {
		for _, base := range []int{0, 1, 10, 256 - (3 + 2*n)} {
			for _, x := range edgeKeys() {
				for _, d := range everyDeed(x) {
					do(base, n, d)
				}
			}
		}
	}
}

func count(l []api.Instr, op api.Op) int {
	n := 0
	for _, in := range l {
		if in.Op == op {
			n++
		}
	}
	return n
}

func TestCodeIsOneTransaction(t *testing.T) {
	forms(func(base, n int, d api.Deed) {
		l := mustCode(t, base, n, d)
		if e, at := code.Verify(l); e != api.OK || at != 0 {
			t.Fatal(d, e, at)
		}
		if len(l) > 100 || l[0].Op != api.DoBegin || l[len(l)-1].Op != api.DoCommit {
			t.Error(d, l)
		}
		if count(l, api.DoBegin) != 1 || count(l, api.DoCommit) != 1 || count(l, api.DoAbort) != 0 || count(l, api.DoHalt) != 0 {
			t.Error(d, l)
		}
	})
}

// scene is what a deed's program finds: cells, a stack, locals.
type scene struct {
	cells  []int64
	stack  []int64
	locals [api.MaxLocals]int64
}

// sceneOf has those cells, and nothing else that is 0 for a program to lean on.
func sceneOf(rnd *rand.Rand, cells []int64) scene {
	s := scene{cells: cells, stack: anyNumbers(rnd, rnd.Intn(4))}
	copy(s.locals[:], anyNumbers(rnd, api.MaxLocals))
	return s
}

// anyScene has so many cells, among them a set of those keys.
func anyScene(rnd *rand.Rand, cells, base, n int, keys []int64) scene {
	return sceneOf(rnd, within(rnd, layout(rnd, n, keys), base, cells))
}

// ahead is a program that makes the stack and the locals what they are.
func (s scene) ahead() []api.Instr {
	l := []api.Instr{}
	for i, x := range s.locals {
		l = append(l, api.Instr{Op: api.DoPush, A: int(x)}, api.Instr{Op: api.DoSet, A: i})
	}
	for _, x := range s.stack {
		l = append(l, api.Instr{Op: api.DoPush, A: int(x)})
	}
	return l
}

// result is what has become of a deed's program.
type result struct {
	cells  []int64
	state  api.ProgState
	did    int // instructions of the deed
	writes int
}

// runAlone does the deed's program in that scene.
func runAlone(t *testing.T, s scene, l []api.Instr) result {
	t.Helper()
	ahead := s.ahead()
	list, e := code.Join(ahead, l)
	if e != api.OK {
		t.Fatal(e)
	}
	sp, e := space.New(api.Config{Cells: len(s.cells), Slots: 1, Bits: 128, Tag: api.CommitWins})
	if e != api.OK || sp.Fill(s.cells) != api.OK {
		t.Fatal(e)
	}
	p, e := prog.New(sp, 1, list)
	if e != api.OK {
		t.Fatal(e)
	}
	r := result{}
	for range 100000 {
		if p.Done() {
			r.cells, r.state, r.writes = sp.View().Cells, p.State(), len(p.Writes())
			return r
		}
		resting := p.Phase() == api.PhaseIdle || p.Phase() == api.PhaseActive
		if at := p.State().Place; resting && at >= len(ahead) && at < len(list) {
			r.did++
		}
		sp.Turn(1)
		p.Step()
	}
	t.Fatal("not ended", p.State())
	return r
}

// wantAsDo asks whether a deed's program, alone, does and tells what Do does.
func wantAsDo(t *testing.T, s scene, base, n int, d api.Deed) result {
	t.Helper()
	l := mustCode(t, base, n, d)
	before, e := set.Read(s.cells, base, n)
	if e != api.OK {
		t.Fatal(e)
	}
	after, told, e := set.Do(before, n, d)
	if e != api.OK {
		t.Fatal(e)
	}
	r := runAlone(t, s, l)
	end := base + set.Room(n)
	if !slices.Equal(r.cells[:base], s.cells[:base]) || !slices.Equal(r.cells[end:], s.cells[end:]) {
		t.Errorf("%+v at %d: other cells: %v, were %v", d, base, r.cells, s.cells)
	}
	if left, e := set.Read(r.cells, base, n); !slices.Equal(left, after) || e != api.OK {
		t.Errorf("%+v at %d: left %v %v, want %v", d, base, left, e, after)
	}
	x := r.state
	if x.E != api.OK || x.Place != len(s.ahead())+len(l) || !slices.Equal(x.Told, told) || !slices.Equal(x.Stack, s.stack) {
		t.Errorf("%+v at %d: %+v, want told %v", d, base, x, told)
	}
	if r.did > 6000 || r.writes > 8 {
		t.Errorf("%+v at %d: %d instructions, %d cells", d, base, r.did, r.writes)
	}
	return r
}

func TestCodeAloneDoesWhatDoDoes(t *testing.T) {
	rnd := rand.New(rand.NewSource(185))
	forms(func(base, n int, d api.Deed) {
		wantAsDo(t, anyScene(rnd, 256, base, n, anyKeys(rnd, n)), base, n, d)
		room := 3 + 2*n
		wantAsDo(t, anyScene(rnd, base+room, base, n, anyKeys(rnd, n)), base, n, d) // just as many cells as there must be
	})
}

// some are the keys at the edges whose bits stand in which.
func some(which int) []int64 {
	var l []int64
	for i, x := range []int64{math.MinInt64, -1, 0, 1, math.MaxInt64} {
		if which>>i&1 == 1 {
			l = append(l, x)
		}
	}
	return l
}

// Every set of five keys at the edges, with no room left and with some, and every key of these and beside these.
func TestCodeAloneAtTheEdges(t *testing.T) {
	rnd := rand.New(rand.NewSource(186))
	for which := range 1 << 5 {
		keys := some(which)
		for _, n := range []int{max(1, len(keys)), len(keys) + 1, len(keys) + 3} {
			for _, x := range []int64{math.MinInt64, math.MinInt64 + 1, -2, -1, 0, 1, 2, math.MaxInt64 - 1, math.MaxInt64} {
				for _, d := range everyDeed(x) {
					wantAsDo(t, anyScene(rnd, 3+2*n+2, 1, n, keys), 1, n, d)
				}
			}
		}
	}
}

func TestCodeAloneOfRandomSets(t *testing.T) {
	rnd := rand.New(rand.NewSource(187))
	for range 1500 {
		n := 1 + rnd.Intn(60)
		room := 3 + 2*n
		base := rnd.Intn(256 - room + 1)
		cells := base + room + rnd.Intn(256-base-room+1)
		keys := anyKeys(rnd, n)
		wantAsDo(t, anyScene(rnd, cells, base, n, keys), base, n, anyDeed(rnd, keys))
	}
}

// The longest way is that behind the last of 59 or 60 keys.
func TestCodeAloneOfTheGreatestSet(t *testing.T) {
	rnd := rand.New(rand.NewSource(188))
	for _, many := range []int{58, 59, 60} {
		keys := make([]int64, many)
		for i := range keys {
			keys[i] = int64(3 * i)
		}
		for _, base := range []int{0, 133} {
			for _, x := range []int64{-1, 0, 1, 3 * 30, 3*30 + 1, int64(3 * (many - 1)), int64(3 * many)} {
				for _, d := range everyDeed(x) {
					wantAsDo(t, anyScene(rnd, 256, base, 60, keys), base, 60, d)
				}
			}
		}
	}
}

// What is only looked at, or changes nothing, writes nothing.
func TestCodeWritesNoMoreThanItChanges(t *testing.T) {
	rnd := rand.New(rand.NewSource(189))
	for _, c := range []struct {
		d      api.Deed
		writes int
	}{
		{put(4), 5}, {put(2), 0}, {drop(5), 4}, {drop(4), 0}, {has(5), 0}, {has(4), 0}, {least(), 0}, {size(), 0},
	} {
		if r := wantAsDo(t, anyScene(rnd, 20, 3, 4, numbers(2, 5, 7)), 3, 4, c.d); r.writes != c.writes {
			t.Error(c.d, r.writes)
		}
	}
	if r := wantAsDo(t, anyScene(rnd, 20, 3, 3, numbers(2, 5, 7)), 3, 3, put(4)); r.writes != 0 {
		t.Error("full", r.writes)
	}
}

// Deeds one behind the other in one space: the set that one leaves the next one finds.
func TestCodesOneBehindTheOther(t *testing.T) {
	rnd := rand.New(rand.NewSource(1890))
	for range 60 {
		n, base := 1+rnd.Intn(6), rnd.Intn(4)
		s := sceneOf(rnd, within(rnd, mustStart(t, n), base, base+3+2*n+2))
		for range 60 {
			d := everyDeed(rnd.Int63n(int64(n+3)) - 1)[rnd.Intn(5)]
			s.cells = wantAsDo(t, s, base, n, d).cells
		}
	}
}

func mustStart(t *testing.T, n int) []int64 {
	t.Helper()
	l, e := set.Start(n)
	if e != api.OK {
		t.Fatal(e)
	}
	return l
}

// Deeds laid together in one program do what they do one behind the other.
func TestCodesLaidTogether(t *testing.T) {
	rnd := rand.New(rand.NewSource(1891))
	for range 200 {
		n := 1 + rnd.Intn(5)
		base := rnd.Intn(4)
		l := anyKeys(rnd, n)
		s := anyScene(rnd, base+3+2*n+2, base, n, l)
		var parts [][]api.Instr
		var told []int64
		for range 1 + rnd.Intn(5) {
			d := anyDeed(rnd, l)
			parts = append(parts, mustCode(t, base, n, d))
			after, tells := plainDo(l, n, d)
			l, told = after, append(told, tells...)
		}
		whole, e := code.Join(parts...)
		if e != api.OK {
			t.Fatal(e)
		}
		if e, at := code.Verify(whole); e != api.OK {
			t.Fatal(e, at)
		}
		r := runAlone(t, s, whole)
		left, e := set.Read(r.cells, base, n)
		if r.state.E != api.OK || !slices.Equal(r.state.Told, told) || !slices.Equal(left, l) || e != api.OK {
			t.Error(r, told, l)
		}
	}
}
