package deque_test

import (
	"math"
	"math/rand"
	"slices"
	"testing"

	"quash/api"
	"quash/deque"
)

// P20.1

func TestRoom(t *testing.T) {
	for n := -10; n <= 300; n++ {
		want := 0
		if 1 <= n && n <= 100 {
			want = 2 + n
		}
		if room := deque.Room(n); room != want {
			t.Error(n, room)
		}
	}
	for _, n := range noSizes() {
		if room := deque.Room(n); room != 0 {
			t.Error(n, room)
		}
	}
}

func TestStart(t *testing.T) {
	for n := 1; n <= 100; n++ {
		want := make([]int64, 2+n)
		if l, e := deque.Start(n); !slices.Equal(l, want) || e != api.OK {
			t.Error(n, l, e)
		}
		wantRead(t, want, 0, n, nil)
	}
	for _, n := range noSizes() {
		if l, e := deque.Start(n); len(l) != 0 || e != api.ErrDequeArg {
			t.Error(n, l, e)
		}
	}
}

// P20.2

func TestReadIsTheValuesFromTheFrontOn(t *testing.T) {
	rnd := rand.New(rand.NewSource(202))
	for range 3000 {
		n := 1 + rnd.Intn(100)
		l := anyRow(rnd, n)
		base, behind := rnd.Intn(80), rnd.Intn(3)
		cells := within(rnd, layout(rnd, n, l), base, base+2+n+behind)
		wantRead(t, cells, base, n, l)
	}
}

// Every front and every number of values, of small deques and of the greatest one.
func TestReadOfEveryTurn(t *testing.T) {
	rnd := rand.New(rand.NewSource(2020))
	for _, n := range dequeSizes() {
		for front := range n {
			for many := range n + 1 {
				l := anyNumbers(rnd, many)
				wantRead(t, ring(rnd, n, front, l), 0, n, l)
			}
		}
	}
}

func TestReadOfCellsOfAnyNumber(t *testing.T) {
	// More cells than a space has are no fault of the list.
	cells := append(make([]int64, 991), 2, 2, 5, 6, 7)
	wantRead(t, cells, 991, 3, numbers(7, 5))
}

func TestReadOfTooFewCells(t *testing.T) {
	rnd := rand.New(rand.NewSource(2021))
	for _, n := range dequeSizes() {
		room := 2 + n
		for _, many := range []int{0, 1, room - 1, room, room + 1, 256} {
			for _, base := range []int{math.MinInt, -room, -1, 0, 1, many - room, many - room + 1, many, many + 1, math.MaxInt - room, math.MaxInt - room + 1, math.MaxInt} {
				cells := make([]int64, many, many+200) // room behind them is no cell
				if base >= 0 && base <= many-room {
					l := anyRow(rnd, n)
					copy(cells[base:], layout(rnd, n, l))
					wantRead(t, cells, base, n, l)
				} else {
					wantNoRead(t, cells, base, n, api.ErrDequeArg)
				}
			}
		}
		wantNoRead(t, nil, 0, n, api.ErrDequeArg)
	}
}

func TestReadOfNoDeque(t *testing.T) {
	for _, n := range noSizes() {
		for _, base := range []int{0, 1, 10, -1, math.MaxInt} {
			wantNoRead(t, make([]int64, 256), base, n, api.ErrDequeArg)
		}
		wantNoRead(t, nil, 0, n, api.ErrDequeArg)
	}
}

// That there are too few cells is told first, also where those that there are would be no deque's.
func TestReadTellsArgumentsFirst(t *testing.T) {
	wantNoRead(t, numbers(9, 9, 0, 0), 0, 3, api.ErrDequeArg)
	wantNoRead(t, numbers(9, 9, 0, 0, 0), 1, 3, api.ErrDequeArg)
	wantNoRead(t, numbers(9, 9, 0, 0, 0), -1, 3, api.ErrDequeArg)
	wantNoRead(t, numbers(9, 9, 0, 0, 0), 0, 3, api.ErrDequeForm)
}

func TestReadOfEveryFrontAndSize(t *testing.T) {
	rnd := rand.New(rand.NewSource(203))
	right, wrong := 0, 0
	for _, n := range dequeSizes() {
		near := []int64{}
		for x := -3; x <= n+3; x++ {
			near = append(near, int64(x))
		}
		all := append(near, edgeNumbers()...)
		all = append(all, 1<<32+int64(n)-1, math.MinInt64+int64(n), int64(-n), int64(2*n), math.MaxInt64-int64(n))
		for _, front := range all {
			for _, many := range all {
				part := append(numbers(front, many), anyNumbers(rnd, n)...)
				if want, is := plainRead(part, n); is {
					right++
					wantRead(t, part, 0, n, want)
				} else {
					wrong++
					wantNoRead(t, part, 0, n, api.ErrDequeForm)
				}
			}
		}
	}
	if right < 10000 || wrong < 10000 {
		t.Error("too little was asked", right, wrong)
	}
}

// P20.3

func TestDoOfEveryNumberOfValues(t *testing.T) {
	rnd := rand.New(rand.NewSource(204))
	for _, n := range dequeSizes() {
		for many := range n + 1 {
			l := anyNumbers(rnd, many)
			for _, d := range everyDeed(anyNumber(rnd)) {
				after, told := plainDo(l, n, d)
				wantDo(t, l, n, d, after, told...)
			}
		}
	}
}

func TestDoOfEdges(t *testing.T) {
	for _, a := range edgeNumbers() {
		for _, b := range edgeNumbers() {
			wantDo(t, nil, 1, push(a), numbers(a), 1)
			wantDo(t, nil, 1, shove(a), numbers(a), 1)
			wantDo(t, numbers(a), 1, push(b), numbers(a), 0)
			wantDo(t, numbers(a), 1, shove(b), numbers(a), 0)
			wantDo(t, numbers(a), 2, push(b), numbers(a, b), 1)
			wantDo(t, numbers(a), 2, shove(b), numbers(b, a), 1)
			wantDo(t, numbers(a, b), 2, pop(), numbers(a), 1, b)
			wantDo(t, numbers(a, b), 2, shift(), numbers(b), 1, a)
			wantDo(t, numbers(a), 1, pop(), nil, 1, a)
			wantDo(t, numbers(a), 1, shift(), nil, 1, a)
			wantDo(t, numbers(a, b), 2, size(), numbers(a, b), 2)
		}
	}
	wantDo(t, nil, 1, pop(), nil, 0)
	wantDo(t, nil, 1, shift(), nil, 0)
	wantDo(t, nil, 1, size(), nil, 0)
}

func TestDoOfTooManyValues(t *testing.T) {
	for _, n := range dequeSizes() {
		l := make([]int64, n+1, n+9)
		for i := range l {
			l[i] = int64(-i)
		}
		for _, d := range everyDeed(3) {
			wantNoDo(t, l, n, d)
			wantNoDo(t, l[:n+1:n+1], n, d)
			after, told := plainDo(l[:n], n, d)
			wantDo(t, l[:n], n, d, after, told...)
		}
	}
}

func TestDoOfNoDeque(t *testing.T) {
	for _, n := range noSizes() {
		for _, d := range everyDeed(1) {
			wantNoDo(t, nil, n, d)
			wantNoDo(t, numbers(1, 2), n, d)
		}
	}
}

// Deeds that may not be, asked of Do and of Code alike.

func wantRefused(t *testing.T, d api.Deed) {
	t.Helper()
	wantNoDo(t, nil, 3, d)
	wantNoDo(t, numbers(1, 2, 3), 3, d)
	wantNoCode(t, 0, 3, d)
}

func TestDeedsOfNoOp(t *testing.T) {
	for _, op := range []int{math.MinInt, -1, 0, 6, 7, 22, 1 << 32, 1<<32 + 1, math.MaxInt} {
		wantRefused(t, api.Deed{Op: op})
		for _, d := range everyDeed(1) {
			wantRefused(t, withOp(d, op))
		}
	}
}

func TestDeedsWithFieldsThatAreNotTheirs(t *testing.T) {
	for _, k := range []int{1, -1, 2, 1 << 32, math.MaxInt, math.MinInt} {
		for _, d := range everyDeed(1) {
			wantRefused(t, withA(d, k))
			wantRefused(t, withB(d, k))
			wantRefused(t, withY(d, int64(k)))
		}
		for _, d := range []api.Deed{pop(), shift(), size()} {
			wantRefused(t, withX(d, int64(k)))
		}
	}
}

// P20.4

// comesOut does deeds in any order, puts in by one and takes out by the other, and has what was put in, being told 1, and what came out behind that.
func comesOut(t *testing.T, rnd *rand.Rand, n int, in func(int64) api.Deed, out api.Deed) (puts, takes []int64, at []int) {
	t.Helper()
	var l []int64
	for x := range int64(60) {
		d := out
		if rnd.Intn(2) == 0 {
			d = in(x)
		}
		after, told, e := deque.Do(l, n, d)
		switch {
		case e != api.OK || len(told) == 0:
			t.Fatal(l, d, told, e)
		case told[0] == 1 && d.Op == out.Op:
			takes, at = append(takes, told[1]), append(at, len(puts))
		case told[0] == 1:
			puts = append(puts, x)
		}
		l = after
	}
	for len(l) > 0 {
		after, told, e := deque.Do(l, n, out)
		if e != api.OK || told[0] != 1 {
			t.Fatal(l, told, e)
		}
		takes, at, l = append(takes, told[1]), append(at, len(puts)), after
	}
	return puts, takes, at
}

func TestAQueue(t *testing.T) {
	rnd := rand.New(rand.NewSource(205))
	for range 400 {
		n := 1 + rnd.Intn(6)
		puts, takes, _ := comesOut(t, rnd, n, push, shift())
		if !slices.Equal(puts, takes) {
			t.Error(puts, takes)
		}
		puts, takes, _ = comesOut(t, rnd, n, shove, pop()) // the same from the other end
		if !slices.Equal(puts, takes) {
			t.Error(puts, takes)
		}
	}
}

// What comes out of a stack is what was put in last of what has not come out yet.
func TestAStack(t *testing.T) {
	rnd := rand.New(rand.NewSource(206))
	want := func(puts, takes []int64, at []int) {
		t.Helper()
		var pile []int64
		seen := 0
		for i, x := range takes {
			pile = append(pile, puts[seen:at[i]]...)
			seen = at[i]
			last := len(pile) - 1
			if last < 0 || pile[last] != x {
				t.Fatal(puts, takes, at)
			}
			pile = pile[:last]
		}
		if len(pile) != 0 || seen != len(puts) {
			t.Error(puts, takes, at)
		}
	}
	for range 400 {
		n := 1 + rnd.Intn(6)
		want(comesOut(t, rnd, n, push, pop()))
		want(comesOut(t, rnd, n, shove, shift()))
	}
}

// P20.6

// spoil puts something else into a list, and into the room behind it.
func spoil[T any](l []T, x T) {
	l = l[:cap(l)]
	for i := range l {
		l[i] = x
	}
}

func TestWhatIsHandedInIsNotChanged(t *testing.T) {
	const waste = -12345
	for _, d := range everyDeed(6) {
		for _, n := range []int{2, 3, 4} {
			row := numbers(9, 5, 7, 0, 8)
			kept := slices.Clone(row)
			// Behind the two there is room, which is not ours either.
			l, told, e := deque.Do(row[1:3], n, d)
			if e != api.OK || !slices.Equal(row, kept) {
				t.Error(d, row, e)
			}
			spoil(l, waste)
			want, tells := plainDo(row[1:3], n, d)
			if !slices.Equal(told, tells) || !slices.Equal(row, kept) {
				t.Error(d, told, row)
			}
			spoil(told, waste)
			if !slices.Equal(row, kept) {
				t.Error(d, row)
			}
			// The answers have nothing in common with a second call's.
			l2, told2, _ := deque.Do(row[1:3], n, d)
			spoil(l, waste)
			spoil(told, waste)
			if !slices.Equal(l2, want) || !slices.Equal(told2, tells) {
				t.Error(d, l2, told2)
			}
			spoil(row, waste)
			if !slices.Equal(l2, want) || !slices.Equal(told2, tells) {
				t.Error(d, l2, told2)
			}
		}
	}
}

func TestWhatIsHandedInEmptyIsNotChanged(t *testing.T) {
	for _, d := range everyDeed(6) {
		row := numbers(9, 5, 7)
		l, told, e := deque.Do(row[1:1], 2, d)
		if e != api.OK || !slices.Equal(row, numbers(9, 5, 7)) {
			t.Error(d, row, e)
		}
		spoil(l, -1)
		spoil(told, -1)
		if !slices.Equal(row, numbers(9, 5, 7)) {
			t.Error(d, row)
		}
	}
}

func TestReadAnswersNewMemory(t *testing.T) {
	for _, many := range []int64{0, 1, 2, 3} {
		for _, front := range []int64{0, 1, 2} {
			cells := numbers(7, front, many, 5, 6, 7, 9)
			kept := slices.Clone(cells)
			want, _ := plainRead(kept[1:6], 3)
			l, _ := deque.Read(cells[:6], 1, 3)
			spoil(l, 3)
			if !slices.Equal(cells, kept) {
				t.Error(cells)
			}
			l, _ = deque.Read(cells, 1, 3)
			spoil(cells, 3)
			if !slices.Equal(l, want) {
				t.Error(l)
			}
		}
	}
	first, _ := deque.Start(3)
	spoil(first, 3)
	if again, _ := deque.Start(3); !slices.Equal(again, make([]int64, 5)) {
		t.Error(again)
	}
}

func TestCodeAnswersNewMemory(t *testing.T) {
	for _, d := range everyDeed(1) {
		l := mustCode(t, 4, 3, d)
		kept := slices.Clone(l)
		spoil(l, api.Instr{Op: api.DoHalt, A: 9})
		if again := mustCode(t, 4, 3, d); !slices.Equal(again, kept) {
			t.Error(d, again)
		}
	}
}

// The chapter's examples

func TestExamples(t *testing.T) {
	if deque.Room(3) != 5 || deque.Room(101) != 0 {
		t.Error("room")
	}
	if l, e := deque.Start(1); !slices.Equal(l, numbers(0, 0, 0)) || e != api.OK {
		t.Error(l, e)
	}
	wantRead(t, numbers(2, 2, 5, 6, 7), 0, 3, numbers(7, 5))
	wantRead(t, numbers(0, 0, 1, 2, 3), 0, 3, nil)
	wantNoRead(t, numbers(3, 0, 0, 0, 0), 0, 3, api.ErrDequeForm)
	wantNoRead(t, numbers(0, 4, 0, 0, 0), 0, 3, api.ErrDequeForm)
	wantNoRead(t, numbers(0, -1, 0, 0, 0), 0, 3, api.ErrDequeForm)
	l := numbers(7, 5)
	wantDo(t, l, 3, push(1), numbers(7, 5, 1), 1)
	wantDo(t, l, 3, shove(1), numbers(1, 7, 5), 1)
	wantDo(t, l, 3, pop(), numbers(7), 1, 5)
	wantDo(t, l, 3, shift(), numbers(5), 1, 7)
	wantDo(t, l, 3, size(), l, 2)
	wantDo(t, numbers(1, 2, 3), 3, push(4), numbers(1, 2, 3), 0)
	wantDo(t, nil, 3, pop(), nil, 0)
}
