package dict_test

import (
	"math"
	"math/rand"
	"slices"
	"testing"

	"quash/api"
	"quash/dict"
)

// P19.1

func TestRoom(t *testing.T) {
	for n := -10; n <= 300; n++ {
		want := 0
		if 1 <= n && n <= 60 {
			want = 1 + 3*n
		}
		if room := dict.Room(n); room != want {
			t.Error(n, room)
		}
	}
	for _, n := range noSizes() {
		if room := dict.Room(n); room != 0 {
			t.Error(n, room)
		}
	}
}

func TestStart(t *testing.T) {
	for n := 1; n <= 60; n++ {
		want := make([]int64, 1+3*n)
		if l, e := dict.Start(n); !slices.Equal(l, want) || e != api.OK {
			t.Error(n, l, e)
		}
		wantRead(t, want, 0, n, nil)
	}
	for _, n := range noSizes() {
		if l, e := dict.Start(n); len(l) != 0 || e != api.ErrDictArg {
			t.Error(n, l, e)
		}
	}
}

// P19.2

func TestReadIsTheEntries(t *testing.T) {
	rnd := rand.New(rand.NewSource(192))
	for range 3000 {
		n := 1 + rnd.Intn(60)
		l := anyEntries(rnd, n)
		base, behind := rnd.Intn(80), rnd.Intn(3)
		cells := within(rnd, layout(rnd, n, l), base, base+dict.Room(n)+behind)
		wantRead(t, cells, base, n, l)
	}
}

func TestReadOfCellsOfAnyNumber(t *testing.T) {
	// More cells than a space has are no fault of the list.
	cells := append(make([]int64, 991), 2, 0, 0, 0, 1, 4, 7, 1, 1, 8)
	wantRead(t, cells, 991, 3, entries(1, 8, 4, 7))
}

func TestReadOfTooFewCells(t *testing.T) {
	rnd := rand.New(rand.NewSource(1920))
	for _, n := range dictSizes() {
		room := 1 + 3*n
		for _, many := range []int{0, 1, room - 1, room, room + 1, 256} {
			for _, base := range []int{math.MinInt, -room, -1, 0, 1, many - room, many - room + 1, many, many + 1, math.MaxInt - room, math.MaxInt - room + 1, math.MaxInt} {
				cells := make([]int64, many, many+200) // room behind them is no cell
				if base >= 0 && base <= many-room {
					l := anyEntries(rnd, n)
					copy(cells[base:], layout(rnd, n, l))
					wantRead(t, cells, base, n, l)
				} else {
					wantNoRead(t, cells, base, n, api.ErrDictArg)
				}
			}
		}
		wantNoRead(t, nil, 0, n, api.ErrDictArg)
	}
}

func TestReadOfNoDict(t *testing.T) {
	for _, n := range noSizes() {
		for _, base := range []int{0, 1, 10, -1, math.MaxInt} {
			wantNoRead(t, make([]int64, 256), base, n, api.ErrDictArg)
		}
		wantNoRead(t, nil, 0, n, api.ErrDictArg)
	}
}

// everyCells hands on all lists that have, in each place, one of the numbers for it.
func everyCells(of [][]int64, do func([]int64)) {
	part := make([]int64, len(of))
	var from func(int)
	from = func(i int) {
		if i == len(of) {
			do(part)
			return
		}
		for _, x := range of[i] {
			part[i] = x
			from(i + 1)
		}
	}
	from(0)
}

func TestReadOfEverySmallForm(t *testing.T) {
	right := 0
	for n := 1; n <= 3; n++ {
		sizes := numbers(-1, 0, 1, 2, 3, 4)[:n+3]
		of := [][]int64{sizes}
		for place := range n {
			of = append(of, numbers(0, 1, 2, 3), numbers(0, 1, 2, 3, -1), numbers(int64(50+place)))
		}
		everyCells(of, func(part []int64) {
			want, is := plainRead(part, n)
			if is {
				right++
				wantRead(t, part, 0, n, want)
			} else {
				wantNoRead(t, part, 0, n, api.ErrDictForm)
			}
		})
	}
	if right < 1000 {
		t.Error("too few were of a dict", right)
	}
}

// One cell of a dict changed: it is one still only where the chapter says so.
func TestReadOfOneCellChanged(t *testing.T) {
	rnd := rand.New(rand.NewSource(193))
	right, wrong := 0, 0
	for range 20000 {
		n := 1 + rnd.Intn(60)
		if rnd.Intn(2) == 0 {
			n = 1 + rnd.Intn(4)
		}
		part := layout(rnd, n, anyEntries(rnd, n))
		at := rnd.Intn(len(part))
		switch rnd.Intn(3) {
		case 0:
			part[at] = anyNumber(rnd)
		case 1:
			part[at] = part[rnd.Intn(len(part))]
		default:
			part[at] = rnd.Int63n(4)
		}
		want, is := plainRead(part, n)
		cells := within(rnd, part, 2, len(part)+4)
		if is {
			right++
			wantRead(t, cells, 2, n, want)
		} else {
			wrong++
			wantNoRead(t, cells, 2, n, api.ErrDictForm)
		}
	}
	if right < 1000 || wrong < 1000 {
		t.Error("too little was changed", right, wrong)
	}
}

func TestReadOfStatesAndNumbersThatAreNone(t *testing.T) {
	for _, x := range numbers(-1, 3, 4, 256, 257, 1<<32, 1<<32+1, 1<<32+2, 1<<62, math.MaxInt64, math.MinInt64, math.MinInt64+1, -1<<32) {
		for _, at := range []int{0, 1, 4, 7} {
			part := numbers(1, 0, 0, 0, 2, 9, 9, 1, 1, 8)
			wantRead(t, part, 0, 3, entries(1, 8))
			part[at] = x
			wantNoRead(t, part, 0, 3, api.ErrDictForm)
		}
	}
}

// A key may stand at any place, if the others between its home and that one are not free.
func TestReadOfWaysRound(t *testing.T) {
	for n := 1; n <= 7; n++ {
		for _, key := range edgeNumbers() {
			for place := range n {
				full := make([]int64, 1+3*n)
				full[0] = 1
				for at := range n {
					full[1+3*at] = 2
				}
				full[1+3*place], full[2+3*place], full[3+3*place] = 1, key, 77
				wantRead(t, full, 0, n, entries(key, 77))
				way := []int{}
				for at := plainHome(key, n); at != place; at = (at + 1) % n {
					way = append(way, at)
				}
				for at := range n {
					if at == place {
						continue
					}
					part := slices.Clone(full)
					part[1+3*at] = 0
					if slices.Contains(way, at) {
						wantNoRead(t, part, 0, n, api.ErrDictForm)
					} else {
						wantRead(t, part, 0, n, entries(key, 77))
					}
				}
			}
		}
	}
}

// P19.3

func TestDoOfEdges(t *testing.T) {
	rnd := rand.New(rand.NewSource(1930))
	edges := edgeNumbers()
	for i := range edges {
		for j := i; j <= len(edges); j++ {
			l := of(rnd, edges[i:j])
			for _, n := range []int{j - i, j - i + 1, 60} {
				if n == 0 {
					continue
				}
				for _, x := range edges {
					for _, d := range everyDeed(x, anyNumber(rnd)) {
						after, told := plainDo(l, n, d)
						wantDo(t, l, n, d, after, told...)
					}
				}
			}
		}
	}
}

func TestDoOfRandomDicts(t *testing.T) {
	rnd := rand.New(rand.NewSource(194))
	for range 5000 {
		n := 1 + rnd.Intn(60)
		l := anyEntries(rnd, n)
		d := anyDeed(rnd, n, l)
		after, told := plainDo(l, n, d)
		wantDo(t, l, n, d, after, told...)
	}
}

func TestDoByHand(t *testing.T) {
	low, top := int64(math.MinInt64), int64(math.MaxInt64)
	wantDo(t, nil, 1, put(0, 0), entries(0, 0), 1)
	wantDo(t, entries(0, 5), 1, put(0, 6), entries(0, 6), 0) // it is there: that there is no room is not told
	wantDo(t, entries(0, 5), 1, put(0, 5), entries(0, 5), 0)
	wantDo(t, entries(0, 5), 1, put(1, 6), entries(0, 5), 2)
	wantDo(t, entries(0, 5), 2, put(low, top), entries(low, top, 0, 5), 1)
	wantDo(t, entries(low, 1, top, 2), 3, put(0, low), entries(low, 1, 0, low, top, 2), 1)
	wantDo(t, entries(low, 1, top, 2), 2, drop(top), entries(low, 1), 1)
	wantDo(t, entries(low, 1, top, 2), 2, drop(low), entries(top, 2), 1)
	wantDo(t, entries(low, 1, top, 2), 2, drop(0), entries(low, 1, top, 2), 0)
	wantDo(t, nil, 1, drop(0), nil, 0)
	wantDo(t, entries(0, 0), 1, get(0), entries(0, 0), 1, 0)
	wantDo(t, entries(low, low), 1, get(low), entries(low, low), 1, low)
	wantDo(t, nil, 1, get(0), nil, 0)
	wantDo(t, entries(3, top), 2, add(3, 1), entries(3, low), 1, low) // values come round
	wantDo(t, entries(3, low), 2, add(3, -1), entries(3, top), 1, top)
	wantDo(t, entries(3, low), 2, add(3, low), entries(3, 0), 1, 0)
	wantDo(t, entries(3, 4), 2, add(3, 0), entries(3, 4), 1, 4)
	wantDo(t, entries(3, 4), 2, add(0, 1), entries(3, 4), 0)
	wantDo(t, nil, 2, size(), nil, 0)
	wantDo(t, entries(-1, 9, 0, 9), 2, size(), entries(-1, 9, 0, 9), 2)
}

func TestDoOfTooManyEntries(t *testing.T) {
	for _, n := range dictSizes() {
		l := make([]api.Entry, n+1, n+9)
		for i := range l {
			l[i] = api.Entry{Key: int64(i), X: int64(-i)}
		}
		for _, d := range everyDeed(3, 4) {
			wantNoDo(t, l, n, d)
			after, told := plainDo(l[:n], n, d)
			wantDo(t, l[:n], n, d, after, told...)
		}
	}
}

func TestDoOfKeysThatDoNotRise(t *testing.T) {
	for _, keys := range [][]int64{{2, 1}, {1, 1}, {1, 2, 2}, {1, 1, 2}, {1, 3, 2}, {3, 1, 2}, {0, -1}, {math.MaxInt64, math.MinInt64}, {math.MinInt64, math.MinInt64}, {1, 2, 3, 4, 5, 6, 7, 7}, {0, 0, 0}} {
		var same, rising []api.Entry
		for i, key := range keys {
			same = append(same, api.Entry{Key: key, X: 5})
			rising = append(rising, api.Entry{Key: key, X: int64(i)}) // values that rise make no keys rise
		}
		for _, d := range everyDeed(1, 2) {
			for _, n := range []int{8, 60} {
				wantNoDo(t, same, n, d)
				wantNoDo(t, rising, n, d)
			}
		}
	}
}

func TestDoOfNoDict(t *testing.T) {
	for _, n := range noSizes() {
		for _, d := range everyDeed(1, 2) {
			wantNoDo(t, nil, n, d)
			wantNoDo(t, entries(1, 2, 3, 4), n, d)
		}
	}
}

// Deeds that may not be, asked of Do and of Code alike.

func wantRefused(t *testing.T, d api.Deed) {
	t.Helper()
	wantNoDo(t, nil, 3, d)
	wantNoDo(t, entries(1, 1, 2, 2, 3, 3), 3, d)
	wantNoCode(t, 0, 3, d)
}

func TestDeedsOfNoOp(t *testing.T) {
	for _, op := range []int{math.MinInt, -1, 0, 6, 7, 22, 1 << 32, 1<<32 + 1, math.MaxInt} {
		wantRefused(t, api.Deed{Op: op})
		for _, d := range everyDeed(1, 2) {
			wantRefused(t, withOp(d, op))
		}
	}
}

func TestDeedsWithFieldsThatAreNotTheirs(t *testing.T) {
	for _, k := range []int{1, -1, 2, 1 << 32, math.MaxInt, math.MinInt} {
		for _, d := range everyDeed(1, 2) {
			wantRefused(t, withA(d, k))
			wantRefused(t, withB(d, k))
		}
		for _, d := range []api.Deed{get(1), drop(1), size()} {
			wantRefused(t, withY(d, int64(k)))
		}
		wantRefused(t, withX(size(), int64(k)))
	}
}

// P19.4

// valueOf is what DictGet tells of a key.
func valueOf(t *testing.T, l []api.Entry, n int, x int64) []int64 {
	t.Helper()
	after, told, e := dict.Do(l, n, get(x))
	if e != api.OK || !slices.Equal(after, l) {
		t.Fatal(l, x, after, e)
	}
	return told
}

func TestDeedsOfOneKeyLeaveTheOthers(t *testing.T) {
	rnd := rand.New(rand.NewSource(195))
	puts, fulls, drops := 0, 0, 0
	for range 300 {
		n := 1 + rnd.Intn(8)
		l := []api.Entry{}
		for range 40 {
			x, y := rnd.Int63n(12)-3, rnd.Int63n(5)
			d := []api.Deed{put(x, y), drop(x), add(x, y), get(x)}[rnd.Intn(4)]
			after, told, e := dict.Do(l, n, d)
			if e != api.OK {
				t.Fatal(l, d, e)
			}
			for other := int64(-4); other < 10; other++ {
				if other != x && !slices.Equal(valueOf(t, l, n, other), valueOf(t, after, n, other)) {
					t.Error(l, d, after)
				}
			}
			was, is := valueOf(t, l, n, x), valueOf(t, after, n, x)
			want := was
			switch {
			case d.Op == api.DictPut && told[0] == 2:
				fulls++
			case d.Op == api.DictPut:
				want = numbers(1, y)
				puts++
			case d.Op == api.DictDrop:
				want = numbers(0)
				drops++
			case d.Op == api.DictAdd && was[0] == 1:
				want = numbers(1, was[1]+y)
			}
			if !slices.Equal(is, want) {
				t.Error(l, d, after, is, want)
			}
			l = after
		}
	}
	if puts < 1000 || fulls < 200 || drops < 1000 {
		t.Error("too little was done", puts, fulls, drops)
	}
}

// P19.6

// spoil puts something else into a list, and into the room behind it.
func spoil[T any](l []T, x T) {
	l = l[:cap(l)]
	for i := range l {
		l[i] = x
	}
}

func TestWhatIsHandedInIsNotChanged(t *testing.T) {
	waste := api.Entry{Key: -12345, X: -12345}
	for _, d := range []api.Deed{put(6, 1), put(5, 1), drop(5), drop(6), get(5), get(6), add(5, 1), add(6, 1), size(), put(1, 1), put(9, 1)} {
		for _, n := range []int{2, 3, 4} {
			row := entries(9, 9, 5, 4, 7, 3, 0, 0, 8, 8)
			kept := slices.Clone(row)
			// Behind the two there is room, which is not ours either.
			l, told, e := dict.Do(row[1:3], n, d)
			if e != api.OK || !slices.Equal(row, kept) {
				t.Error(d, row, e)
			}
			spoil(l, waste)
			spoil(told, -12345)
			if !slices.Equal(row, kept) {
				t.Error(d, row)
			}
			// The answers have nothing in common with a second call's.
			l2, told2, _ := dict.Do(row[1:3], n, d)
			want, tells := plainDo(row[1:3], n, d)
			spoil(l, waste)
			spoil(told, -12345)
			if !slices.Equal(l2, want) || !slices.Equal(told2, tells) {
				t.Error(d, l2, told2)
			}
			spoil(row, waste)
			if !slices.Equal(l2, want) {
				t.Error(d, l2)
			}
		}
	}
}

func TestReadAnswersNewMemory(t *testing.T) {
	cells := numbers(7, 2, 0, 0, 0, 1, 4, 7, 1, 1, 8, 9)
	kept := slices.Clone(cells)
	l, _ := dict.Read(cells[:11], 1, 3)
	spoil(l, api.Entry{Key: 3, X: 3})
	if !slices.Equal(cells, kept) {
		t.Error(cells)
	}
	l, _ = dict.Read(cells, 1, 3)
	spoil(cells, 3)
	if !slices.Equal(l, entries(1, 8, 4, 7)) {
		t.Error(l)
	}
	first, _ := dict.Start(3)
	spoil(first, 3)
	if again, _ := dict.Start(3); !slices.Equal(again, make([]int64, 10)) {
		t.Error(again)
	}
}

func TestCodeAnswersNewMemory(t *testing.T) {
	for _, d := range everyDeed(1, 2) {
		l := mustCode(t, 4, 3, d)
		kept := slices.Clone(l)
		spoil(l, api.Instr{Op: api.DoHalt, A: 9})
		if again := mustCode(t, 4, 3, d); !slices.Equal(again, kept) {
			t.Error(d, again)
		}
	}
}

// An answer hangs on no map's order: asked again, it is the same.
func TestAnswersAreTheSameAgain(t *testing.T) {
	rnd := rand.New(rand.NewSource(196))
	l := of(rnd, anyNumbers(rnd, 60))
	cells := layout(rnd, 60, l)
	broken := slices.Clone(cells)
	broken[0]++
	for range 200 {
		wantRead(t, cells, 0, 60, l)
		wantNoRead(t, broken, 0, 60, api.ErrDictForm)
		wantDo(t, l, 60, size(), l, int64(len(l)))
	}
}

// The chapter's examples

func TestExamples(t *testing.T) {
	if dict.Room(3) != 10 || dict.Room(0) != 0 {
		t.Error("room")
	}
	if l, e := dict.Start(1); !slices.Equal(l, numbers(0, 0, 0, 0)) || e != api.OK {
		t.Error(l, e)
	}
	wantRead(t, numbers(2, 0, 0, 0, 1, 4, 7, 1, 1, 8), 0, 3, entries(1, 8, 4, 7))
	wantRead(t, numbers(1, 0, 0, 0, 2, 9, 9, 1, 1, 8), 0, 3, entries(1, 8))
	wantNoRead(t, numbers(1, 0, 0, 0, 0, 9, 9, 1, 1, 8), 0, 3, api.ErrDictForm)
	wantNoRead(t, numbers(1, 3, 0, 0, 1, 1, 1, 0, 0, 0), 0, 3, api.ErrDictForm)
	wantNoRead(t, numbers(2, 1, 3, 0, 1, 3, 0, 0, 0, 0), 0, 3, api.ErrDictForm)
	wantNoRead(t, numbers(0, 1, 0, 0, 0, 0, 0, 0, 0, 0), 0, 3, api.ErrDictForm)
	l := entries(1, 8, 4, 7)
	wantDo(t, l, 3, put(2, 9), entries(1, 8, 2, 9, 4, 7), 1)
	wantDo(t, l, 3, put(4, 1), entries(1, 8, 4, 1), 0)
	wantDo(t, l, 3, get(1), l, 1, 8)
	wantDo(t, l, 3, drop(4), entries(1, 8), 1)
	wantDo(t, l, 3, add(1, -3), entries(1, 5, 4, 7), 1, 5)
	wantDo(t, l, 3, add(2, 1), l, 0)
	wantDo(t, l, 3, size(), l, 2)
	wantRead(t, numbers(1, 0, 0, 0, 0, 0, 0, 1, -1, 8), 0, 3, entries(-1, 8)) // the home of -1 is 2
	wantNoRead(t, numbers(1, 1, -1, 8, 0, 0, 0, 0, 0, 0), 0, 3, api.ErrDictForm)
	wantNoRead(t, numbers(1, 0, 0, 0, 1, -1, 8, 0, 0, 0), 0, 3, api.ErrDictForm)
}
