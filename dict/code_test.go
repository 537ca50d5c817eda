package dict_test

import (
	"math"
	"math/rand"
	"slices"
	"testing"

	"quash/api"
	"quash/code"
	"quash/dict"
	"quash/prog"
	"quash/space"
)

// P19.5

func TestCodeOfPlacesThatMayNotBe(t *testing.T) {
	for _, n := range dictSizes() {
		room := 1 + 3*n
		for _, d := range everyDeed(1, 2) {
			for _, base := range []int{math.MinInt, -room, -1, 256 - room + 1, 256, 257, math.MaxInt - room, math.MaxInt - room + 1, math.MaxInt, 1 << 32} {
				wantNoCode(t, base, n, d)
			}
			for _, base := range []int{0, 1, 60, 256 - room} {
				mustCode(t, base, n, d)
			}
		}
	}
}

func TestCodeOfNoDict(t *testing.T) {
	for _, n := range noSizes() {
		for _, d := range everyDeed(1, 2) {
			wantNoCode(t, 0, n, d)
			wantNoCode(t, 10, n, d)
			wantNoCode(t, -1, n, d)
		}
	}
}

// forms are dicts and deeds of all sorts.
func forms(do func(base, n int, d api.Deed)) {
	edges := edgeNumbers()
	for _, n := range dictSizes() {
		for _, base := range []int{0, 1, 2, 10, 256 - (1 + 3*n)} {
			for i, x := range edges {
				for _, d := range everyDeed(x, edges[len(edges)-1-i]) {
					do(base, n, d)
				}
			}
		}
	}
}

func count(l []api.Instr, op api.Op) int {
	n := 0
	for _, in := range l {
		if in.Op == op {
			n++
		}
	}
	return n
}

func TestCodeIsOneTransaction(t *testing.T) {
	forms(func(base, n int, d api.Deed) {
		l := mustCode(t, base, n, d)
		if e, at := code.Verify(l); e != api.OK || at != 0 {
			t.Fatal(d, e, at)
		}
		if len(l) > 100 || l[0].Op != api.DoBegin || l[len(l)-1].Op != api.DoCommit {
			t.Error(d, l)
		}
		if count(l, api.DoBegin) != 1 || count(l, api.DoCommit) != 1 || count(l, api.DoAbort) != 0 || count(l, api.DoHalt) != 0 {
			t.Error(d, l)
		}
	})
}

// scene is what a deed's program finds: cells, a stack, locals.
type scene struct {
	cells  []int64
	stack  []int64
	locals [api.MaxLocals]int64
}

// sceneOf has those cells, and nothing else that is 0 for a program to lean on.
func sceneOf(rnd *rand.Rand, cells []int64) scene {
	s := scene{cells: cells, stack: anyNumbers(rnd, rnd.Intn(4))}
	copy(s.locals[:], anyNumbers(rnd, api.MaxLocals))
	return s
}

// anyScene has so many cells, among them a dict of those entries.
func anyScene(rnd *rand.Rand, cells, base, n int, l []api.Entry) scene {
	return sceneOf(rnd, within(rnd, layout(rnd, n, l), base, cells))
}

// ahead is a program that makes the stack and the locals what they are.
func (s scene) ahead() []api.Instr {
	l := []api.Instr{}
	for i, x := range s.locals {
		l = append(l, api.Instr{Op: api.DoPush, A: int(x)}, api.Instr{Op: api.DoSet, A: i})
	}
	for _, x := range s.stack {
		l = append(l, api.Instr{Op: api.DoPush, A: int(x)})
	}
	return l
}

// result is what has become of a deed's program.
type result struct {
	cells  []int64
	state  api.ProgState
	did    int // instructions of the deed
	writes int
}

// runAlone does the deed's program in that scene.
func runAlone(t *testing.T, s scene, l []api.Instr) result {
	t.Helper()
	ahead := s.ahead()
	list, e := code.Join(ahead, l)
	if e != api.OK {
		t.Fatal(e)
	}
	sp, e := space.New(api.Config{Cells: len(s.cells), Slots: 1, Bits: 128, Tag: api.CommitWins})
	if e != api.OK || sp.Fill(s.cells) != api.OK {
		t.Fatal(e)
	}
	p, e := prog.New(sp, 1, list)
	if e != api.OK {
		t.Fatal(e)
	}
	r := result{}
	for range 100000 {
		if p.Done() {
			r.cells, r.state, r.writes = sp.View().Cells, p.State(), len(p.Writes())
			return r
		}
		resting := p.Phase() == api.PhaseIdle || p.Phase() == api.PhaseActive
		if at := p.State().Place; resting && at >= len(ahead) && at < len(list) {
			r.did++
		}
		sp.Turn(1)
		p.Step()
	}
	t.Fatal("not ended", p.State())
	return r
}

// wantAsDo asks whether a deed's program, alone, does and tells what Do does.
func wantAsDo(t *testing.T, s scene, base, n int, d api.Deed) result {
	t.Helper()
	l := mustCode(t, base, n, d)
	before, e := dict.Read(s.cells, base, n)
	if e != api.OK {
		t.Fatal(e)
	}
	after, told, e := dict.Do(before, n, d)
	if e != api.OK {
		t.Fatal(e)
	}
	r := runAlone(t, s, l)
	end := base + dict.Room(n)
	if !slices.Equal(r.cells[:base], s.cells[:base]) || !slices.Equal(r.cells[end:], s.cells[end:]) {
		t.Errorf("%+v at %d: other cells: %v, were %v", d, base, r.cells, s.cells)
	}
	if left, e := dict.Read(r.cells, base, n); !slices.Equal(left, after) || e != api.OK {
		t.Errorf("%+v at %d: left %v %v, want %v", d, base, left, e, after)
	}
	x := r.state
	if x.E != api.OK || x.Place != len(s.ahead())+len(l) || !slices.Equal(x.Told, told) || !slices.Equal(x.Stack, s.stack) {
		t.Errorf("%+v at %d: %+v, want told %v", d, base, x, told)
	}
	if r.did > 6000 || r.writes > 8 {
		t.Errorf("%+v at %d: %d instructions, %d cells", d, base, r.did, r.writes)
	}
	return r
}

func TestCodeAloneDoesWhatDoDoes(t *testing.T) {
	rnd := rand.New(rand.NewSource(195))
	forms(func(base, n int, d api.Deed) {
		wantAsDo(t, anyScene(rnd, 256, base, n, anyEntries(rnd, n)), base, n, d)
		room := 1 + 3*n
		wantAsDo(t, anyScene(rnd, base+room, base, n, anyEntries(rnd, n)), base, n, d) // just as many cells as there must be
	})
}

// Every dict of size 3 of keys that share homes, whatever the states of its places, and every key of these and beside these.
func TestCodeAloneOfEverySmallForm(t *testing.T) {
	rnd := rand.New(rand.NewSource(196))
	done := 0
	for n := 1; n <= 3; n++ {
		of := [][]int64{numbers(0, 1, 2, 3)[:n+1]}
		for place := range n {
			of = append(of, numbers(0, 1, 2), numbers(0, 1, -1, 3), numbers(int64(50+place)))
		}
		everyCells(of, func(part []int64) {
			if _, is := plainRead(part, n); !is || rnd.Intn(4) > 0 {
				return
			}
			done++
			for _, x := range numbers(0, 1, 2, 3, -1, -3) {
				d := everyDeed(x, anyNumber(rnd))[rnd.Intn(5)]
				wantAsDo(t, sceneOf(rnd, within(rnd, part, 1, len(part)+2)), 1, n, d)
			}
		})
	}
	if done < 200 {
		t.Error("too few were of a dict", done)
	}
}

func TestCodeAloneOfRandomDicts(t *testing.T) {
	rnd := rand.New(rand.NewSource(197))
	for range 1500 {
		n := 1 + rnd.Intn(60)
		room := 1 + 3*n
		base := rnd.Intn(256 - room + 1)
		cells := base + room + rnd.Intn(256-base-room+1)
		l := anyEntries(rnd, n)
		wantAsDo(t, anyScene(rnd, cells, base, n, l), base, n, anyDeed(rnd, n, l))
	}
}

// The longest way is round all 60 places: of a full dict, of one whose places are gone, of keys of one home.
func TestCodeAloneOfTheGreatestDict(t *testing.T) {
	rnd := rand.New(rand.NewSource(198))
	for _, many := range []int{0, 1, 59, 60} {
		for _, home := range []int64{0, 1, 30, 59} {
			part := make([]int64, 181)
			part[0] = int64(many)
			for behind := range 60 {
				at := (int(home) + behind) % 60
				part[1+3*at], part[2+3*at], part[3+3*at] = 1, home+60*int64(behind), int64(behind)
				if behind < 60-many {
					part[1+3*at] = 2
				}
			}
			for _, base := range []int{0, 75} {
				for _, x := range []int64{home, home + 60*59, home - 60, home + 1, home + 60*30} {
					for _, d := range everyDeed(x, 5) {
						wantAsDo(t, sceneOf(rnd, within(rnd, part, base, 256)), base, 60, d)
					}
				}
			}
		}
	}
}

// What is only looked at, or changes nothing, writes nothing.
func TestCodeWritesNoMoreThanItChanges(t *testing.T) {
	rnd := rand.New(rand.NewSource(199))
	l := entries(2, 20, 5, 50, 7, 70)
	for _, c := range []struct {
		d      api.Deed
		writes int
	}{
		{put(4, 1), 4}, {put(2, 1), 1}, {drop(5), 2}, {drop(4), 0}, {get(5), 0}, {get(4), 0}, {add(5, 1), 1}, {add(4, 1), 0}, {size(), 0},
	} {
		if r := wantAsDo(t, anyScene(rnd, 20, 3, 4, l), 3, 4, c.d); r.writes != c.writes {
			t.Error(c.d, r.writes)
		}
	}
	if r := wantAsDo(t, anyScene(rnd, 20, 3, 3, l), 3, 3, put(4, 1)); r.writes != 0 {
		t.Error("full", r.writes)
	}
}

// Deeds one behind the other in one space: the dict that one leaves the next one finds, gone places and all.
func TestCodesOneBehindTheOther(t *testing.T) {
	rnd := rand.New(rand.NewSource(1990))
	for range 60 {
		n, base := 1+rnd.Intn(6), rnd.Intn(4)
		s := sceneOf(rnd, within(rnd, mustStart(t, n), base, base+1+3*n+2))
		for range 60 {
			d := everyDeed(rnd.Int63n(int64(2*n+3))-1, anyNumber(rnd))[rnd.Intn(5)]
			s.cells = wantAsDo(t, s, base, n, d).cells
		}
	}
}

func mustStart(t *testing.T, n int) []int64 {
	t.Helper()
	l, e := dict.Start(n)
	if e != api.OK {
		t.Fatal(e)
	}
	return l
}

// Deeds laid together in one program do what they do one behind the other.
func TestCodesLaidTogether(t *testing.T) {
	rnd := rand.New(rand.NewSource(1991))
	for range 200 {
		n := 1 + rnd.Intn(5)
		base := rnd.Intn(4)
		l := anyEntries(rnd, n)
		s := anyScene(rnd, base+1+3*n+2, base, n, l)
		var parts [][]api.Instr
		var told []int64
		for range 1 + rnd.Intn(5) {
			d := anyDeed(rnd, n, l)
			parts = append(parts, mustCode(t, base, n, d))
			after, tells := plainDo(l, n, d)
			l, told = after, append(told, tells...)
		}
		whole, e := code.Join(parts...)
		if e != api.OK {
			t.Fatal(e)
		}
		if e, at := code.Verify(whole); e != api.OK {
			t.Fatal(e, at)
		}
		r := runAlone(t, s, whole)
		left, e := dict.Read(r.cells, base, n)
		if r.state.E != api.OK || !slices.Equal(r.state.Told, told) || !slices.Equal(left, l) || e != api.OK {
			t.Error(r, told, l)
		}
	}
}
