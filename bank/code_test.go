package bank_test

import (
	"math"
	"math/rand"
	"slices"
	"testing"

	"quash/api"
	"quash/bank"
	"quash/code"
	"quash/prog"
	"quash/space"
)

// P17.5

func TestCodeOfPlacesThatMayNotBe(t *testing.T) {
	for _, n := range bankSizes() {
		for _, d := range everyDeed(n-1, 0, 1) {
			for _, base := range []int{math.MinInt, -n, -1, 256 - n + 1, 256, 257, math.MaxInt - n, math.MaxInt - n + 1, math.MaxInt, 1 << 32} {
				wantNoCode(t, base, n, d)
			}
			for _, base := range []int{0, 1, 100, 256 - n} {
				mustCode(t, base, n, d)
			}
		}
	}
}

func TestCodeOfNoBank(t *testing.T) {
	for _, n := range noSizes() {
		for _, d := range everyDeed(0, 0, 1) {
			wantNoCode(t, 0, n, d)
			wantNoCode(t, 10, n, d)
			wantNoCode(t, -1, n, d)
		}
	}
}

// forms are banks and deeds of all sorts.
func forms(do func(base, n int, d api.Deed)) {
	for _, n := range bankSizes() {
		for _, base := range []int{0, 1, 10, 256 - n} {
			for _, x := range []int64{0, 1, 7, 1 << 31} {
				for _, a := range []int{0, n / 2, n - 1} {
					for _, b := range []int{0, n / 2, n - 1} {
						for _, d := range everyDeed(a, b, x) {
							do(base, n, d)
						}
					}
				}
			}
		}
	}
}

func count(l []api.Instr, op api.Op) int {
	n := 0
	for _, in := range l {
		if in.Op == op {
			n++
		}
	}
	return n
}

func TestCodeIsOneTransaction(t *testing.T) {
	forms(func(base, n int, d api.Deed) {
		l := mustCode(t, base, n, d)
		if e, at := code.Verify(l); e != api.OK || at != 0 {
			t.Fatal(d, e, at)
		}
		if len(l) > 100 || l[0].Op != api.DoBegin || l[len(l)-1].Op != api.DoCommit {
			t.Error(d, l)
		}
		if count(l, api.DoBegin) != 1 || count(l, api.DoCommit) != 1 || count(l, api.DoAbort) != 0 || count(l, api.DoHalt) != 0 {
			t.Error(d, l)
		}
	})
}

// scene is what a deed's program finds: cells, a stack, locals.
type scene struct {
	cells  []int64
	stack  []int64
	locals [api.MaxLocals]int64
}

// anyScene is one in which nothing is 0 for a program to lean on.
func anyScene(rnd *rand.Rand, cells int) scene {
	s := scene{cells: anyBalances(rnd, cells), stack: anyBalances(rnd, rnd.Intn(4))}
	copy(s.locals[:], anyBalances(rnd, api.MaxLocals))
	return s
}

// ahead is a program that makes the stack and the locals what they are.
func (s scene) ahead() []api.Instr {
	l := []api.Instr{}
	for i, x := range s.locals {
		l = append(l, api.Instr{Op: api.DoPush, A: int(x)}, api.Instr{Op: api.DoSet, A: i})
	}
	for _, x := range s.stack {
		l = append(l, api.Instr{Op: api.DoPush, A: int(x)})
	}
	return l
}

// result is what has become of a deed's program.
type result struct {
	cells  []int64
	state  api.ProgState
	did    int // instructions of the deed
	writes int
}

// runAlone does the deed's program in that scene.
func runAlone(t *testing.T, s scene, l []api.Instr) result {
	t.Helper()
	ahead := s.ahead()
	list, e := code.Join(ahead, l)
	if e != api.OK {
		t.Fatal(e)
	}
	sp, e := space.New(api.Config{Cells: len(s.cells), Slots: 1, Bits: 128, Tag: api.CommitWins})
	if e != api.OK || sp.Fill(s.cells) != api.OK {
		t.Fatal(e)
	}
	p, e := prog.New(sp, 1, list)
	if e != api.OK {
		t.Fatal(e)
	}
	r := result{}
	for range 100000 {
		if p.Done() {
			r.cells, r.state, r.writes = sp.View().Cells, p.State(), len(p.Writes())
			return r
		}
		resting := p.Phase() == api.PhaseIdle || p.Phase() == api.PhaseActive
		if at := p.State().Place; resting && at >= len(ahead) && at < len(list) {
			r.did++
		}
		sp.Turn(1)
		p.Step()
	}
	t.Fatal("not ended", p.State())
	return r
}

// wantAsDo asks whether a deed's program, alone, does and tells what Do does.
func wantAsDo(t *testing.T, s scene, base, n int, d api.Deed) result {
	t.Helper()
	l := mustCode(t, base, n, d)
	before, e := bank.Read(s.cells, base, n)
	if e != api.OK {
		t.Fatal(e)
	}
	after, told, e := bank.Do(before, n, d)
	if e != api.OK {
		t.Fatal(e)
	}
	r := runAlone(t, s, l)
	want := slices.Concat(s.cells[:base], after, s.cells[base+n:])
	if !slices.Equal(r.cells, want) {
		t.Errorf("%+v at %d: cells %v, want %v", d, base, r.cells, want)
	}
	if left, e := bank.Read(r.cells, base, n); !slices.Equal(left, after) || e != api.OK {
		t.Errorf("%+v at %d: left %v, want %v", d, base, left, after)
	}
	x := r.state
	if x.E != api.OK || x.Place != len(s.ahead())+len(l) || !slices.Equal(x.Told, told) || !slices.Equal(x.Stack, s.stack) {
		t.Errorf("%+v at %d: %+v, want told %v", d, base, x, told)
	}
	if r.did > 6000 || r.writes > 8 {
		t.Errorf("%+v at %d: %d instructions, %d cells", d, base, r.did, r.writes)
	}
	return r
}

func TestCodeAloneDoesWhatDoDoes(t *testing.T) {
	rnd := rand.New(rand.NewSource(175))
	forms(func(base, n int, d api.Deed) {
		wantAsDo(t, anyScene(rnd, 256), base, n, d)
		wantAsDo(t, anyScene(rnd, base+n), base, n, d) // just as many cells as there must be
	})
}

func TestCodeAloneAtTheEdges(t *testing.T) {
	rnd := rand.New(rand.NewSource(176))
	for _, x := range edgePays() {
		for _, a := range edgeBalances() {
			for _, b := range []int64{0, 7, -7, math.MaxInt64, math.MinInt64} {
				s := anyScene(rnd, 5)
				s.cells[2], s.cells[3] = a, b
				for _, d := range slices.Concat(everyDeed(1, 2, x), everyDeed(1, 1, x)) {
					wantAsDo(t, s, 1, 3, d)
				}
			}
		}
	}
}

func TestCodeAloneOfRandomBanks(t *testing.T) {
	rnd := rand.New(rand.NewSource(177))
	for range 1500 {
		n := 1 + rnd.Intn(64)
		base := rnd.Intn(256 - n + 1)
		cells := base + n + rnd.Intn(256-base-n+1)
		wantAsDo(t, anyScene(rnd, cells), base, n, anyDeed(rnd, n))
	}
}

// What is only looked at, or is refused, is not written.
func TestCodeWritesNoMoreThanItChanges(t *testing.T) {
	rnd := rand.New(rand.NewSource(178))
	for _, c := range []struct {
		d      api.Deed
		writes int
	}{
		{payTo(1, 3), 1}, {takeFrom(1, 7), 1}, {takeFrom(1, 8), 0}, {move(1, 0, 7), 2}, {move(1, 0, 8), 0}, {move(1, 1, 7), 1}, {see(1), 0}, {sumUp(), 0},
	} {
		s := anyScene(rnd, 3)
		copy(s.cells, balances(5, 7, 0))
		if r := wantAsDo(t, s, 0, 3, c.d); r.writes != c.writes {
			t.Error(c.d, r.writes)
		}
	}
}

// Deeds one behind the other in one program do what they do one behind the other.
func TestCodesLaidTogether(t *testing.T) {
	rnd := rand.New(rand.NewSource(179))
	for range 100 {
		n := 1 + rnd.Intn(5)
		base := rnd.Intn(4)
		s := anyScene(rnd, base+n+2)
		l := slices.Clone(s.cells[base : base+n])
		var parts [][]api.Instr
		var told []int64
		for range 1 + rnd.Intn(8) {
			d := anyDeed(rnd, n)
			parts = append(parts, mustCode(t, base, n, d))
			after, tells := plainDo(l, d)
			l, told = after, append(told, tells)
		}
		whole, e := code.Join(parts...)
		if e != api.OK {
			t.Fatal(e)
		}
		if e, at := code.Verify(whole); e != api.OK {
			t.Fatal(e, at)
		}
		r := runAlone(t, s, whole)
		if r.state.E != api.OK || !slices.Equal(r.state.Told, told) || !slices.Equal(r.cells[base:base+n], l) {
			t.Error(r, told, l)
		}
	}
}
