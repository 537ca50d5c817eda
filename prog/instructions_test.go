package prog_test

import (
	"math"
	"math/big"
	"slices"
	"strconv"
	"testing"

	"quash/api"
)

// P16.3

// instruction is what the chapters say of one: how it is written, what it pops and pushes, what it does to the stack where it asks nothing of a transaction.
type instruction struct {
	text         string
	pops, pushes int
	does         func(l []int64) []int64 // of the values that it pops, the lowest first
}

func plainOnes() []instruction {
	same := func(l []int64) []int64 { return l }
	gone := func([]int64) []int64 { return nil }
	one := func(f func(lower, upper int64) int64) func([]int64) []int64 {
		return func(l []int64) []int64 { return []int64{f(l[0], l[1])} }
	}
	return []instruction{
		{"push -8", 0, 1, func([]int64) []int64 { return []int64{-8} }},
		{"pop", 1, 0, gone},
		{"dup", 1, 2, func(l []int64) []int64 { return []int64{l[0], l[0]} }},
		{"swap", 2, 2, func(l []int64) []int64 { return []int64{l[1], l[0]} }},
		{"get 5", 0, 1, func([]int64) []int64 { return []int64{0} }},
		{"set 5", 1, 0, gone},
		{"add", 2, 1, one(func(lower, upper int64) int64 { return lower + upper })},
		{"sub", 2, 1, one(func(lower, upper int64) int64 { return lower - upper })},
		{"mul", 2, 1, one(func(lower, upper int64) int64 { return lower * upper })},
		{"mod", 2, 1, one(plainMod)},
		{"less", 2, 1, one(func(lower, upper int64) int64 { return number(lower < upper) })},
		{"same", 2, 1, one(func(lower, upper int64) int64 { return number(lower == upper) })},
		{"not", 1, 1, func(l []int64) []int64 { return []int64{number(l[0] == 0)} }},
		{"jump 0", 0, 0, same},
		{"zero 0", 1, 0, gone},
		{"tell", 1, 0, gone},
	}
}

func number(b bool) int64 {
	if b {
		return 1
	}
	return 0
}

// plainMod reckons by numbers that have no bound.
func plainMod(lower, upper int64) int64 {
	if upper < 1 {
		return 0
	}
	return new(big.Int).Mod(big.NewInt(lower), big.NewInt(upper)).Int64() // as Euclid's, it is never below 0
}

// stands is a program whose next instruction is the text, with so many values on the stack.
func stands(t *testing.T, depth int, inside bool, text string) *runner {
	t.Helper()
	ahead, place := pushes(depth), depth
	if inside {
		ahead, place = ahead+"begin\n", place+1
	}
	return alone(t, four(), ahead+text, 40, 41, 42, 43).reach(t, place)
}

func TestPlainInstructionsAtEveryDepth(t *testing.T) {
	for _, x := range plainOnes() {
		for depth := range 33 {
			for _, inside := range []bool{false, true} {
				r := stands(t, depth, inside, x.text)
				want := r.p.State()
				accesses := len(r.s.Log())
				r.goOn(t, 1)
				if depth < x.pops || depth-x.pops+x.pushes > 32 {
					want.Inside, want.Stamp, want.Done, want.E = false, 0, true, api.ErrProgStack
					wantState(t, r.p, want)
					continue
				}
				popped := want.Stack[depth-x.pops:]
				want.Stack = slices.Concat(pushed(depth-x.pops), x.does(slices.Clone(popped)))
				switch x.text {
				case "set 5":
					want.Locals[5] = popped[0]
				case "tell":
					if inside {
						want.Held = popped
					} else {
						want.Told = popped
					}
				}
				if want.Place++; x.text == "jump 0" || x.text == "zero 0" && popped[0] == 0 {
					want.Place = 0
				}
				wantState(t, r.p, want)
				if n := len(r.s.Log()); n != accesses {
					t.Error(x.text, n, accesses)
				}
			}
		}
	}
}

func TestTransactionsInstructionsAtEveryDepth(t *testing.T) {
	for _, x := range []instruction{
		{text: "begin"}, {text: "load", pops: 1, pushes: 1}, {text: "store", pops: 2},
		{text: "commit"}, {text: "abort 0"}, {text: "halt"},
	} {
		for depth := range 33 {
			for _, inside := range []bool{false, true} {
				r := stands(t, depth, inside, x.text+"\njump 0")
				want := r.p.State()
				e := api.OK
				switch {
				case depth < x.pops:
					e = api.ErrProgStack
				case inside && x.text == "begin":
					e = api.ErrProgTwice
				case inside && x.text == "halt":
					e = api.ErrProgOpen
				case !inside && x.text != "begin" && x.text != "halt":
					e = api.ErrProgNone
				}
				if e != api.OK || x.text == "halt" {
					r.goOn(t, 1)
					want.Inside, want.Stamp, want.Done, want.E = false, 0, true, e
					wantState(t, r.p, want)
					continue
				}
				r.step()
				r.untilRest(t)
				want.Place++
				switch x.text {
				case "begin":
					want.Inside, want.Stamp = true, depth+1
				case "load":
					want.Stack[depth-1] += 40
				case "store":
					want.Stack = want.Stack[:depth-2]
				case "commit":
					want.Inside, want.Stamp = false, 0
				case "abort 0":
					want.Inside, want.Stamp, want.Place = false, 0, 0
				}
				wantState(t, r.p, want)
			}
		}
	}
}

func (r *runner) untilRest(t *testing.T) {
	t.Helper()
	for range mostSteps {
		if phase := r.p.Phase(); phase == api.PhaseIdle || phase == api.PhaseActive {
			return
		}
		r.step()
	}
	t.Fatal("never there", r.p.State())
}

func TestTheUpperAndTheLowerValue(t *testing.T) {
	for text, want := range map[string][]int64{
		"push 7\npush 2\nsub":                 {5},
		"push 2\npush 7\nsub":                 {-5},
		"push 7\npush 2\nmod":                 {1},
		"push 2\npush 7\nmod":                 {2},
		"push 2\npush 7\nless":                {1},
		"push 7\npush 2\nless":                {0},
		"push 7\npush 7\nless":                {0},
		"push 7\npush 7\nsame":                {1},
		"push 7\npush 8\nsame":                {0},
		"push 1\npush 2\npush 3\nswap":        {1, 3, 2},
		"push 1\npush 2\npush 3\npop":         {1, 2},
		"push 1\npush 2\ndup":                 {1, 2, 2},
		"push 9\npush 7\npush 2\nadd":         {9, 9},
		"push 9\npush 7\npush 2\nmul":         {9, 14},
		"push 5\npush 0\nnot\nnot":            {5, 0},
		"push 1\nnot\npush -1\nnot":           {0, 0},
		"push 0\nnot\npush 2\nnot":            {1, 0},
		"push 6\npush 5\nset 0\npush 4":       {6, 4},
		"push 6\nset 7\npush 5\nset 0\nget 7": {6},
	} {
		r := alone(t, four(), text)
		r.finish(t)
		wantEnded(t, r.p, api.OK)
		if l := r.p.State().Stack; !slices.Equal(l, want) {
			t.Error(text, l, want)
		}
	}
}

// edgeNumbers are those at which reckoning may go wrong.
func edgeNumbers() []int64 {
	l := []int64{0, 1, -1, 2, -2, 3, -3, 7, -7, 10, -10, 1 << 31, -1 << 31, 1<<32 + 5, -1<<32 - 5, 3037000500, -3037000500, 1 << 62, -1 << 62}
	return append(l, math.MaxInt64, math.MaxInt64-1, math.MinInt64, math.MinInt64+1)
}

// whole brings a number round modulo 2^64.
func whole(x *big.Int) int64 {
	m := new(big.Int).Mod(x, new(big.Int).Lsh(big.NewInt(1), 64))
	return int64(m.Uint64())
}

func TestNumbersComeRound(t *testing.T) {
	for _, lower := range edgeNumbers() {
		for _, upper := range edgeNumbers() {
			x, y := big.NewInt(lower), big.NewInt(upper)
			text := "push " + strconv.FormatInt(lower, 10) + "\npush " + strconv.FormatInt(upper, 10) + "\n"
			for word, want := range map[string]int64{
				"add":  whole(new(big.Int).Add(x, y)),
				"sub":  whole(new(big.Int).Sub(x, y)),
				"mul":  whole(new(big.Int).Mul(x, y)),
				"mod":  plainMod(lower, upper),
				"less": number(x.Cmp(y) < 0),
				"same": number(x.Cmp(y) == 0),
			} {
				r := alone(t, four(), text+word)
				r.goOn(t, 3)
				wantState(t, r.p, api.ProgState{Place: 3, Stack: []int64{want}})
			}
		}
		r := alone(t, four(), "push "+strconv.FormatInt(lower, 10)+"\nnot")
		r.goOn(t, 2)
		wantState(t, r.p, api.ProgState{Place: 2, Stack: []int64{number(lower == 0)}})
	}
}

func TestEveryLocal(t *testing.T) {
	text, want := "", [8]int64{}
	for i := range 8 {
		text += "push " + strconv.Itoa(10+i) + "\nset " + strconv.Itoa(i) + "\n"
	}
	r := alone(t, four(), text+"get 0\nget 1\nget 2\nget 3\nget 4\nget 5\nget 6\nget 7")
	for i := range 8 {
		wantState(t, r.p, api.ProgState{Place: 2 * i, Locals: want})
		r.goOn(t, 2)
		want[i] = int64(10 + i)
	}
	r.goOn(t, 8)
	wantState(t, r.p, api.ProgState{Place: 24, Locals: want, Stack: want[:]})
}

func TestJumps(t *testing.T) {
	for text, want := range map[string][]int64{
		"jump 3\npush 1\ntell\npush 2\ntell":          {2},
		"push 0\nzero 4\npush 1\ntell\npush 2\ntell":  {2},
		"push 5\nzero 4\npush 1\ntell\npush 2\ntell":  {1, 2},
		"push -1\nzero 4\npush 1\ntell\npush 2\ntell": {1, 2},
		"jump 1":         nil,
		"push 0\nzero 2": nil,
		"push 1\nzero 2": nil,
		"jump 2\nhalt\npush 3\ntell\njump 1\npush 4\ntell":                          {3},
		"push 1\ntell\nhalt\npush 2\ntell":                                          {1},
		"push 3\nset 1\nget 1\ntell\nget 1\npush 1\nsub\nset 1\nget 1\nnot\nzero 2": {3, 2, 1},
	} {
		r := alone(t, four(), text)
		r.finish(t)
		wantEnded(t, r.p, api.OK)
		wantTold(t, r.p, want...)
	}
}

func TestAJumpToItselfGoesOnForEver(t *testing.T) {
	r := alone(t, four(), "jump 0")
	r.goOn(t, 1000)
	wantState(t, r.p, api.ProgState{})
}

// A halt leaves the place where it is, as the end does.
func TestHowAProgramEnds(t *testing.T) {
	r := alone(t, four(), "push 1\nhalt\npush 2")
	r.goOn(t, 1)
	wantState(t, r.p, api.ProgState{Place: 1, Stack: []int64{1}})
	r.goOn(t, 1)
	wantState(t, r.p, api.ProgState{Place: 1, Stack: []int64{1}, Done: true})
	r = alone(t, four(), "push 1\njump 3\nhalt")
	r.goOn(t, 2)
	wantState(t, r.p, api.ProgState{Place: 3, Stack: []int64{1}})
	r.goOn(t, 1)
	wantState(t, r.p, api.ProgState{Place: 3, Stack: []int64{1}, Done: true})
	// With a full stack, too.
	r = alone(t, four(), pushes(32)+"halt")
	r.goOn(t, 33)
	wantState(t, r.p, api.ProgState{Place: 32, Stack: pushed(32), Done: true})
}

func TestCellsThatThereAreNot(t *testing.T) {
	for _, cells := range []int{1, 4, 20, 255, 256} {
		c := four()
		c.Cells = cells
		for _, cell := range []int{-1, cells, cells + 1, 256, 257, math.MaxInt, math.MinInt, 1 << 32, -1 << 32, math.MinInt + 1} {
			for _, rest := range []string{"load", "push 3\nstore"} {
				r := alone(t, c, "push 9\npush "+strconv.Itoa(cell)+"\nbegin\n"+rest)
				r.finish(t)
				wantEnded(t, r.p, api.ErrProgCell)
				x := r.p.State()
				if x.Stack[0] != 9 || x.Stack[1] != int64(cell) || x.Place != len(x.Stack)+1 {
					t.Error(cells, cell, rest, x)
				}
				// Outside that is told first.
				r = alone(t, c, "push "+strconv.Itoa(cell)+"\n"+rest)
				r.finish(t)
				wantEnded(t, r.p, api.ErrProgNone)
			}
		}
		last := strconv.Itoa(cells - 1)
		r := alone(t, c, "begin\npush 0\npush 8\nstore\npush "+last+"\npush 9\nstore\npush 0\nload\ntell\npush "+last+"\nload\ntell\ncommit")
		r.finish(t)
		wantEnded(t, r.p, api.OK)
		if v := r.s.View().Cells; v[cells-1] != 9 || cells > 1 && v[0] != 8 {
			t.Error(v)
		}
	}
}

// A store's lower value is the cell, its upper one what is to stand there.
func TestAStore(t *testing.T) {
	r := alone(t, four(), lines("push 7", "push 3", "begin", "push 1", "push 2", "store", "store", "commit"))
	r.finish(t)
	wantEnded(t, r.p, api.ErrProgCell) // cell 7
	r = alone(t, four(), lines("push 3", "push 7", "begin", "push 1", "push 2", "store", "store", "commit"))
	r.finish(t)
	wantState(t, r.p, api.ProgState{Place: 8, Done: true})
	wantCells(t, r.s, 0, 2, 0, 7)
	wantEvents(t, r.s, 0,
		api.Event{Kind: api.EventBegin, Thread: 1, Stamp: 3},
		api.Event{Kind: api.EventWrite, Thread: 1, Stamp: 3, Cell: 1, X: 2},
		api.Event{Kind: api.EventWrite, Thread: 1, Stamp: 3, Cell: 3, X: 7},
		api.Event{Kind: api.EventCommit, Thread: 1, Stamp: 3, Gate: 1})
}

// A load tells what the cell holds, or what the attempt has written there.
func TestALoad(t *testing.T) {
	r := alone(t, four(), lines("begin", "push 1", "load", "tell", "push 1", "push -5", "store", "push 1", "load", "tell", "push 1", "push 6", "store", "push 1", "load", "tell", "commit",
		"begin", "push 1", "load", "tell", "commit"), 40, 41)
	r.finish(t)
	wantState(t, r.p, api.ProgState{Place: 22, Told: []int64{41, -5, 6, 6}, Done: true})
	wantCells(t, r.s, 40, 6, 0, 0)
}

func TestWhatIsToldInsideIsHeld(t *testing.T) {
	r := alone(t, four(), lines("push 1", "tell", "begin", "push 2", "tell", "push 3", "tell", "commit", "push 4", "tell"))
	r.reach(t, 7)
	wantState(t, r.p, api.ProgState{Place: 7, Told: []int64{1}, Held: []int64{2, 3}, Inside: true, Stamp: 3})
	r.goOn(t, 1)
	wantState(t, r.p, api.ProgState{Place: 8, Told: []int64{1, 2, 3}})
	r.goOn(t, 3)
	wantState(t, r.p, api.ProgState{Place: 10, Told: []int64{1, 2, 3, 4}, Done: true})
}
