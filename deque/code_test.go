package deque_test

import (
	"math"
	"math/rand"
	"slices"
	"testing"

	"quash/api"
	"quash/code"
	"quash/deque"
	"quash/prog"
	"quash/space"
)

// P20.5

func TestCodeOfPlacesThatMayNotBe(t *testing.T) {
	for _, n := range dequeSizes() {
		room := 2 + n
		for _, d := range everyDeed(1) {
			for _, base := range []int{math.MinInt, -room, -1, 256 - room + 1, 256, 257, math.MaxInt - room, math.MaxInt - room + 1, math.MaxInt, 1 << 32} {
				wantNoCode(t, base, n, d)
			}
			for _, base := range []int{0, 1, 60, 256 - room} {
				mustCode(t, base, n, d)
			}
		}
	}
}

func TestCodeOfNoDeque(t *testing.T) {
	for _, n := range noSizes() {
		for _, d := range everyDeed(1) {
			wantNoCode(t, 0, n, d)
			wantNoCode(t, 10, n, d)
			wantNoCode(t, -1, n, d)
		}
	}
}

// forms are deques and deeds of all sorts.
func forms(do func(base, n int, d api.Deed)) {
	for _, n := range dequeSizes() {
		for _, base := range []int{0, 1, 2, 10, 256 - (2 + n)} {
			for _, x := range edgeNumbers() {
				for _, d := range everyDeed(x) {
					do(base, n, d)
				}
			}
		}
	}
}

func count(l []api.Instr, op api.Op) int {
	n := 0
	for _, in := range l {
		if in.Op == op {
			n++
		}
	}
	return n
}

func TestCodeIsOneTransaction(t *testing.T) {
	forms(func(base, n int, d api.Deed) {
		l := mustCode(t, base, n, d)
		if e, at := code.Verify(l); e != api.OK || at != 0 {
			t.Fatal(d, e, at)
		}
		if len(l) > 100 || l[0].Op != api.DoBegin || l[len(l)-1].Op != api.DoCommit {
			t.Error(d, l)
		}
		if count(l, api.DoBegin) != 1 || count(l, api.DoCommit) != 1 || count(l, api.DoAbort) != 0 || count(l, api.DoHalt) != 0 {
			t.Error(d, l)
		}
	})
}

// scene is what a deed's program finds: cells, a stack, locals.
type scene struct {
	cells  []int64
	stack  []int64
	locals [api.MaxLocals]int64
}

// sceneOf has those cells, and nothing else that is 0 for a program to lean on.
func sceneOf(rnd *rand.Rand, cells []int64) scene {
	s := scene{cells: cells, stack: anyNumbers(rnd, rnd.Intn(4))}
	copy(s.locals[:], anyNumbers(rnd, api.MaxLocals))
	return s
}

// anyScene has so many cells, among them a deque of those values.
func anyScene(rnd *rand.Rand, cells, base, n int, l []int64) scene {
	return sceneOf(rnd, within(rnd, layout(rnd, n, l), base, cells))
}

// ahead is a program that makes the stack and the locals what they are.
func (s scene) ahead() []api.Instr {
	l := []api.Instr{}
	for i, x := range s.locals {
		l = append(l, api.Instr{Op: api.DoPush, A: int(x)}, api.Instr{Op: api.DoSet, A: i})
	}
	for _, x := range s.stack {
		l = append(l, api.Instr{Op: api.DoPush, A: int(x)})
	}
	return l
}

// result is what has become of a deed's program.
type result struct {
	cells  []int64
	state  api.ProgState
	did    int // instructions of the deed
	writes int
}

// runAlone does the deed's program in that scene.
func runAlone(t *testing.T, s scene, l []api.Instr) result {
	t.Helper()
	ahead := s.ahead()
	list, e := code.Join(ahead, l)
	if e != api.OK {
		t.Fatal(e)
	}
	sp, e := space.New(api.Config{Cells: len(s.cells), Slots: 1, Bits: 128, Tag: api.CommitWins})
	if e != api.OK || sp.Fill(s.cells) != api.OK {
		t.Fatal(e)
	}
	p, e := prog.New(sp, 1, list)
	if e != api.OK {
		t.Fatal(e)
	}
	r := result{}
	for range 100000 {
		if p.Done() {
			r.cells, r.state, r.writes = sp.View().Cells, p.State(), len(p.Writes())
			return r
		}
		resting := p.Phase() == api.PhaseIdle || p.Phase() == api.PhaseActive
		if at := p.State().Place; resting && at >= len(ahead) && at < len(list) {
			r.did++
		}
		sp.Turn(1)
		p.Step()
	}
	t.Fatal("not ended", p.State())
	return r
}

// wantAsDo asks whether a deed's program, alone, does and tells what Do does.
func wantAsDo(t *testing.T, s scene, base, n int, d api.Deed) result {
	t.Helper()
	l := mustCode(t, base, n, d)
	before, e := deque.Read(s.cells, base, n)
	if e != api.OK {
		t.Fatal(e)
	}
	after, told, e := deque.Do(before, n, d)
	if e != api.OK {
		t.Fatal(e)
	}
	r := runAlone(t, s, l)
	end := base + deque.Room(n)
	if !slices.Equal(r.cells[:base], s.cells[:base]) || !slices.Equal(r.cells[end:], s.cells[end:]) {
		t.Errorf("%+v at %d: other cells: %v, were %v", d, base, r.cells, s.cells)
	}
	if left, e := deque.Read(r.cells, base, n); !slices.Equal(left, after) || e != api.OK {
		t.Errorf("%+v at %d: left %v %v, want %v", d, base, left, e, after)
	}
	x := r.state
	if x.E != api.OK || x.Place != len(s.ahead())+len(l) || !slices.Equal(x.Told, told) || !slices.Equal(x.Stack, s.stack) {
		t.Errorf("%+v at %d: %+v, want told %v", d, base, x, told)
	}
	if r.did > 6000 || r.writes > 8 {
		t.Errorf("%+v at %d: %d instructions, %d cells", d, base, r.did, r.writes)
	}
	return r
}

func TestCodeAloneDoesWhatDoDoes(t *testing.T) {
	rnd := rand.New(rand.NewSource(205))
	forms(func(base, n int, d api.Deed) {
		wantAsDo(t, anyScene(rnd, 256, base, n, anyRow(rnd, n)), base, n, d)
		wantAsDo(t, anyScene(rnd, base+2+n, base, n, anyRow(rnd, n)), base, n, d) // just as many cells as there must be
	})
}

// Every front and every number of values of small deques; of the greatest one the fronts and numbers at the ends.
func TestCodeAloneOfEveryTurn(t *testing.T) {
	rnd := rand.New(rand.NewSource(206))
	some := func(n int, l []int) []int {
		if n < 99 {
			return l
		}
		return slices.Concat(l[:2], l[len(l)/2:len(l)/2+1], l[len(l)-2:])
	}
	upTo := func(n int) (l []int) {
		for i := range n {
			l = append(l, i)
		}
		return l
	}
	for _, n := range dequeSizes() {
		for _, front := range some(n, upTo(n)) {
			for _, many := range some(n, upTo(n+1)) {
				l := anyNumbers(rnd, many)
				base := rnd.Intn(256 - (2 + n) + 1)
				for _, d := range everyDeed(anyNumber(rnd)) {
					wantAsDo(t, sceneOf(rnd, within(rnd, ring(rnd, n, front, l), base, 256)), base, n, d)
				}
			}
		}
	}
}

func TestCodeAloneOfRandomDeques(t *testing.T) {
	rnd := rand.New(rand.NewSource(207))
	for range 1500 {
		n := 1 + rnd.Intn(100)
		room := 2 + n
		base := rnd.Intn(256 - room + 1)
		cells := base + room + rnd.Intn(256-base-room+1)
		wantAsDo(t, anyScene(rnd, cells, base, n, anyRow(rnd, n)), base, n, anyDeed(rnd))
	}
}

// What is only looked at, or changes nothing, writes nothing.
func TestCodeWritesNoMoreThanItChanges(t *testing.T) {
	rnd := rand.New(rand.NewSource(209))
	for _, c := range []struct {
		d                api.Deed
		empty, some, all int
	}{
		{push(4), 2, 2, 0}, {shove(4), 3, 3, 0}, {pop(), 0, 1, 1}, {shift(), 0, 2, 2}, {size(), 0, 0, 0},
	} {
		for many, writes := range []int{c.empty, c.some, c.some, c.all} {
			if r := wantAsDo(t, anyScene(rnd, 20, 3, 3, anyNumbers(rnd, many)), 3, 3, c.d); r.writes != writes {
				t.Error(c.d, many, r.writes)
			}
		}
	}
}

// Deeds one behind the other in one space: the deque that one leaves the next one finds, round the ring more than once.
func TestCodesOneBehindTheOther(t *testing.T) {
	rnd := rand.New(rand.NewSource(2090))
	for range 60 {
		n, base := 1+rnd.Intn(6), rnd.Intn(4)
		s := sceneOf(rnd, within(rnd, mustStart(t, n), base, base+2+n+2))
		l := []int64{}
		for range 60 {
			d := anyDeed(rnd)
			s.cells = wantAsDo(t, s, base, n, d).cells
			l, _ = plainDo(l, n, d)
			wantRead(t, s.cells, base, n, l)
		}
	}
}

// Deeds laid together in one program do what they do one behind the other.
func TestCodesLaidTogether(t *testing.T) {
	rnd := rand.New(rand.NewSource(2091))
	for range 200 {
		n := 1 + rnd.Intn(5)
		base := rnd.Intn(4)
		l := anyRow(rnd, n)
		s := anyScene(rnd, base+2+n+2, base, n, l)
		var parts [][]api.Instr
		var told []int64
		for range 1 + rnd.Intn(8) {
			d := anyDeed(rnd)
			parts = append(parts, mustCode(t, base, n, d))
			after, tells := plainDo(l, n, d)
			l, told = after, append(told, tells...)
		}
		whole, e := code.Join(parts...)
		if e != api.OK {
			t.Fatal(e)
		}
		if e, at := code.Verify(whole); e != api.OK {
			t.Fatal(e, at)
		}
		r := runAlone(t, s, whole)
		left, e := deque.Read(r.cells, base, n)
		if r.state.E != api.OK || !slices.Equal(r.state.Told, told) || !slices.Equal(left, l) || e != api.OK {
			t.Error(r, told, l)
		}
	}
}
