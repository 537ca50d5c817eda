package world_test

import (
	"math/rand"
	"slices"
	"testing"

	"quash/api"
	"quash/bank"
	"quash/code"
	"quash/deque"
	"quash/dict"
	"quash/ghost"
	"quash/opaque"
	"quash/set"
	"quash/world"
)

// P24.9, W9

// structure is what a package of one tells.
type structure struct {
	room   func(n int) int
	start  func(n int) ([]int64, api.Errno)
	code   func(base, n int, d api.Deed) ([]api.Instr, api.Errno)
	deed   func(rnd *rand.Rand, n int) api.Deed
	reckon func(cells []int64, base, n int) (reckoner, bool)
}

// reckoner does deeds one behind the other, and says whether cells read as what they leave.
type reckoner interface {
	do(d api.Deed) ([]int64, api.Errno)
	reads(cells []int64) bool
}

type reckoning[T comparable] struct {
	l        []T
	base, n  int
	doDeed   func(l []T, n int, d api.Deed) ([]T, []int64, api.Errno)
	readFrom func(cells []int64, base, n int) ([]T, api.Errno)
}

func (r *reckoning[T]) do(d api.Deed) ([]int64, api.Errno) {
	l, told, e := r.doDeed(r.l, r.n, d)
	r.l = l
	return told, e
}

func (r *reckoning[T]) reads(cells []int64) bool {
	l, e := r.readFrom(cells, r.base, r.n)
	return e == api.OK && slices.Equal(l, r.l)
}

// reckonerOf makes reckoners of a package's calls; of cells that are none of the structure there is none.
func reckonerOf[T comparable](do func([]T, int, api.Deed) ([]T, []int64, api.Errno), read func([]int64, int, int) ([]T, api.Errno)) func([]int64, int, int) (reckoner, bool) {
	return func(cells []int64, base, n int) (reckoner, bool) {
		l, e := read(cells, base, n)
		return &reckoning[T]{l: l, base: base, n: n, doDeed: do, readFrom: read}, e == api.OK
	}
}

func structures() map[string]structure {
	return map[string]structure{
		"bank": {bank.Room, bank.Start, bank.Code, func(rnd *rand.Rand, n int) api.Deed {
			a, b, x := rnd.Intn(n), rnd.Intn(n), rnd.Int63n(6)
			return oneOf(rnd, api.Deed{Op: api.BankPay, A: a, X: x}, api.Deed{Op: api.BankTake, A: a, X: x}, api.Deed{Op: api.BankMove, A: a, B: b, X: x}, api.Deed{Op: api.BankSee, A: a}, api.Deed{Op: api.BankSum})
		}, reckonerOf(bank.Do, bank.Read)},
		"set": {set.Room, set.Start, set.Code, func(rnd *rand.Rand, n int) api.Deed {
			x := rnd.Int63n(int64(n + 2))
			return oneOf(rnd, api.Deed{Op: api.SetPut, X: x}, api.Deed{Op: api.SetDrop, X: x}, api.Deed{Op: api.SetHas, X: x}, api.Deed{Op: api.SetLeast}, api.Deed{Op: api.SetSize})
		}, reckonerOf(set.Do, set.Read)},
		"dict": {dict.Room, dict.Start, dict.Code, func(rnd *rand.Rand, n int) api.Deed {
			x, y := rnd.Int63n(int64(2*n))-2, rnd.Int63n(9)
			return oneOf(rnd, api.Deed{Op: api.DictPut, X: x, Y: y}, api.Deed{Op: api.DictGet, X: x}, api.Deed{Op: api.DictDrop, X: x}, api.Deed{Op: api.DictAdd, X: x, Y: y}, api.Deed{Op: api.DictSize})
		}, reckonerOf(dict.Do, dict.Read)},
		"deque": {deque.Room, deque.Start, deque.Code, func(rnd *rand.Rand, n int) api.Deed {
			x := rnd.Int63n(99)
			return oneOf(rnd, api.Deed{Op: api.DequePush, X: x}, api.Deed{Op: api.DequeShove, X: x}, api.Deed{Op: api.DequePop}, api.Deed{Op: api.DequeShift}, api.Deed{Op: api.DequeSize})
		}, reckonerOf(deque.Do, deque.Read)},
	}
}

// place is a structure's in the cells.
type place struct {
	structure
	base, n int
}

// deeds is a world whose programs are deeds.
type deeds struct {
	w      *world.World
	start  []int64
	places []place
	lists  [][]api.Deed // of each thread
	at     [][]int      // to which of the places they are done
}

// laid has cells that are of the structures at first, each at its place, as some deeds have left them.
func laid(t *testing.T, rnd *rand.Rand, names ...string) ([]int64, []place) {
	t.Helper()
	var cells []int64
	var places []place
	for _, name := range names {
		p := place{structures()[name], len(cells), 1 + rnd.Intn(5)}
		first, e := p.start(p.n)
		if e != api.OK {
			t.Fatal(e)
		}
		cells = append(cells, first...)
		places = append(places, p)
	}
	for range rnd.Intn(10) {
		p := oneOf(rnd, places...)
		l, e := p.code(p.base, p.n, p.deed(rnd, p.n))
		if e != api.OK {
			t.Fatal(e)
		}
		w := newWorld(t, api.Script{Config: wins(len(cells), 1), Start: cells, Programs: [][]api.Instr{l}})
		finish(t, w, 1)
		cells = w.View().Cells
	}
	return cells, places
}

func newDeeds(t *testing.T, rnd *rand.Rand, threads int, names ...string) *deeds {
	t.Helper()
	cells, places := laid(t, rnd, names...)
	x := &deeds{start: cells, places: places}
	s := api.Script{Config: anyConfig(rnd, len(cells), threads), Start: cells}
	for range threads {
		var list []api.Deed
		var at []int
		var parts [][]api.Instr
		for range 1 + rnd.Intn(4) {
			i := rnd.Intn(len(places))
			p := places[i]
			d := p.deed(rnd, p.n)
			l, e := p.code(p.base, p.n, d)
			if e != api.OK {
				t.Fatal(d, e)
			}
			list, at, parts = append(list, d), append(at, i), append(parts, l)
		}
		l, e := code.Join(parts...)
		if e != api.OK {
			t.Fatal(e)
		}
		s.Programs, x.lists, x.at = append(s.Programs, l), append(x.lists, list), append(x.at, at)
	}
	x.w = newWorld(t, s)
	return x
}

// want asks, where nobody holds the gate, that cells and what was told are what the deeds that committed make of them, one behind the other.
func (x *deeds) want(t *testing.T) {
	v := x.w.View()
	if v.Gate.Owner != 0 {
		return
	}
	var reckoners []reckoner
	for _, p := range x.places {
		r, is := p.reckon(x.start, p.base, p.n)
		if !is {
			t.Fatal("no structure at first", x.start)
		}
		reckoners = append(reckoners, r)
	}
	told := make([][][]int64, len(x.lists)) // of each thread's deeds
	l := x.w.Stories()
	for _, i := range opaque.Order(l) {
		if l[i].Fate != api.Commits {
			continue
		}
		thread := l[i].Thread - 1
		next := len(told[thread])
		one, e := reckoners[x.at[thread][next]].do(x.lists[thread][next])
		if e != api.OK {
			t.Fatal(e)
		}
		told[thread] = append(told[thread], one)
	}
	for i, r := range reckoners {
		if !r.reads(v.Cells) {
			t.Fatal(i, v.Cells, r)
		}
	}
	for i, l := range told {
		x.wantTold(t, i+1, l)
	}
}

// wantTold asks for what all deeds that committed tell; while the last one's last step is to come, for that of the others.
func (x *deeds) wantTold(t *testing.T, thread int, told [][]int64) {
	if peer(t, x.w, thread).Phase == api.PhaseCommit && openlyCommits(x.w, thread) {
		told = told[:len(told)-1]
	}
	if got := state(t, x.w, thread).Told; !slices.Equal(got, slices.Concat(told...)) {
		t.Fatal("thread", thread, "told", got, "want", told)
	}
}

// openlyCommits tells whether a thread's last story commits already.
func openlyCommits(w *world.World, thread int) bool {
	l := slices.DeleteFunc(w.Stories(), func(s api.Story) bool { return s.Thread != thread })
	return len(l) > 0 && l[len(l)-1].Fate == api.Commits
}

// play does steps of any threads till all have ended, and looks behind each.
func (x *deeds) play(t *testing.T, rnd *rand.Rand) {
	t.Helper()
	for range 2000 {
		thread := 1 + rnd.Intn(x.w.Threads())
		for range 1 + rnd.Intn(40) {
			if x.w.Step(thread) == api.Ended {
				break
			}
			x.want(t)
		}
	}
	drain(t, x.w)
	x.want(t)
	many := 0
	for i, l := range x.lists {
		many += len(l)
		if y := state(t, x.w, i+1); y.E != api.OK {
			t.Fatal(y)
		}
	}
	if n := ghost.Count(x.w.Stories()); n.Commits != many || n.Lives != 0 {
		t.Fatal(n, "want", many)
	}
}

func TestDeedsOfOneStructure(t *testing.T) {
	for name := range structures() {
		rnd := rand.New(rand.NewSource(2409))
		aborts := 0
		for range 60 {
			x := newDeeds(t, rnd, 2+rnd.Intn(4), name)
			x.play(t, rnd)
			aborts += ghost.Count(x.w.Stories()).Aborts
		}
		if aborts < 20 {
			t.Error("too little was played", name, aborts)
		}
	}
}

func TestDeedsOfManyStructures(t *testing.T) {
	rnd := rand.New(rand.NewSource(9))
	for range 60 {
		names := []string{"bank", "set", "dict", "deque", "bank", "deque"}
		rnd.Shuffle(len(names), func(i, k int) { names[i], names[k] = names[k], names[i] })
		newDeeds(t, rnd, 2+rnd.Intn(5), names[:2+rnd.Intn(5)]...).play(t, rnd)
	}
}

// Moves alone leave the sum as it was, and all that is summed is that.
func TestTheSumStays(t *testing.T) {
	rnd := rand.New(rand.NewSource(17))
	for range 40 {
		text := "config 4 3 8 " + oneOf(rnd, "1", "2", "3") + " 0 2\nstart 10 20 30 40\n"
		for range 3 {
			text += "thread\n" + oneOf(rnd, "do bank 0 4 move 0 1 7\ndo bank 0 4 move 2 3 9\ndo bank 0 4 move 1 0 30\n", "do bank 0 4 move 3 0 40\ndo bank 0 4 sum\ndo bank 0 4 move 1 2 2\n", "do bank 0 4 sum\ndo bank 0 4 sum\ndo bank 0 4 sum\n") + "end\n"
		}
		w := newWorld(t, parsed(t, text+"thread\ndo bank 0 4 sum\ndo bank 0 4 sum\nend\n"))
		for _, thread := range anyTurns(rnd, 4, 80) {
			w.Step(thread)
			if v := w.View(); v.Gate.Owner == 0 && v.Cells[0]+v.Cells[1]+v.Cells[2]+v.Cells[3] != 100 {
				t.Fatal(v)
			}
		}
		drain(t, w)
		wantTold(t, w, 4, 100, 100)
	}
}
