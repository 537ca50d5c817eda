package set_test

import (
	"math"
	"math/rand"
	"slices"
	"testing"

	"quash/api"
	"quash/set"
)

// P18.1

func TestRoom(t *testing.T) {
	for n := -10; n <= 300; n++ {
		want := 0
		if 1 <= n && n <= 60 {
			want = 3 + 2*n
		}
		if room := set.Room(n); room != want {
			t.Error(n, room)
		}
	}
	for _, n := range noSizes() {
		if room := set.Room(n); room != 0 {
			t.Error(n, room)
		}
	}
}

func TestStart(t *testing.T) {
	for n := 1; n <= 60; n++ {
		want := numbers(0, 1, 0)
		for node := 1; node < n; node++ {
			want = append(want, 0, int64(node+1))
		}
		want = append(want, 0, 0)
		if l, e := set.Start(n); !slices.Equal(l, want) || e != api.OK {
			t.Error(n, l, e)
		}
		wantRead(t, want, 0, n, nil)
	}
	for _, n := range noSizes() {
		if l, e := set.Start(n); len(l) != 0 || e != api.ErrSetArg {
			t.Error(n, l, e)
		}
	}
}

// P18.2

func TestReadIsTheKeys(t *testing.T) {
	rnd := rand.New(rand.NewSource(182))
	for range 3000 {
		n := 1 + rnd.Intn(60)
		keys := anyKeys(rnd, n)
		base, behind := rnd.Intn(140), rnd.Intn(3)
		cells := within(rnd, layout(rnd, n, keys), base, base+set.Room(n)+behind)
		wantRead(t, cells, base, n, keys)
	}
}

func TestReadOfCellsOfAnyNumber(t *testing.T) {
	// More cells than a space has are no fault of the list.
	cells := append(make([]int64, 991), 2, 1, 1, 9, 3, 4, 0, 0, 0)
	wantRead(t, cells, 991, 3, numbers(4))
}

func TestReadOfTooFewCells(t *testing.T) {
	rnd := rand.New(rand.NewSource(1820))
	for _, n := range setSizes() {
		room := 3 + 2*n
		for _, many := range []int{0, 1, room - 1, room, room + 1, 256} {
			for _, base := range []int{math.MinInt, -room, -1, 0, 1, many - room, many - room + 1, many, many + 1, math.MaxInt - room, math.MaxInt - room + 1, math.MaxInt} {
				cells := make([]int64, many, many+200) // room behind them is no cell
				if base >= 0 && base <= many-room {
					keys := anyKeys(rnd, n)
					copy(cells[base:], layout(rnd, n, keys))
					wantRead(t, cells, base, n, keys)
				} else {
					wantNoRead(t, cells, base, n, api.ErrSetArg)
				}
			}
		}
		wantNoRead(t, nil, 0, n, api.ErrSetArg)
	}
}

func TestReadOfNoSet(t *testing.T) {
	for _, n := range noSizes() {
		for _, base := range []int{0, 1, 10, -1, math.MaxInt} {
			wantNoRead(t, make([]int64, 256), base, n, api.ErrSetArg)
		}
		wantNoRead(t, nil, 0, n, api.ErrSetArg)
	}
}

// everyCells hands on all lists that have, in each place, one of the numbers for it.
func everyCells(of [][]int64, do func([]int64)) {
	part := make([]int64, len(of))
	var from func(int)
	from = func(i int) {
		if i == len(of) {
			do(part)
			return
		}
		for _, x := range of[i] {
			part[i] = x
			from(i + 1)
		}
	}
	from(0)
}

func TestReadOfEverySmallForm(t *testing.T) {
	right := 0
	for n := 1; n <= 3; n++ {
		links := numbers(-1, 0)
		for k := 1; k <= n+1; k++ {
			links = append(links, int64(k))
		}
		keys := numbers(4, 5, -6)[:n]
		of := [][]int64{links, links, links}
		for range n {
			of = append(of, keys, links)
		}
		everyCells(of, func(part []int64) {
			want, is := plainRead(part, n)
			if is {
				right++
				wantRead(t, part, 0, n, want)
			} else {
				wantNoRead(t, part, 0, n, api.ErrSetForm)
			}
		})
	}
	if right < 300 {
		t.Error("too few were of a set", right)
	}
}

// One cell of a set changed: it is one still only where the chapter says so.
func TestReadOfOneCellChanged(t *testing.T) {
	rnd := rand.New(rand.NewSource(183))
	right, wrong := 0, 0
	for range 20000 {
		n := 1 + rnd.Intn(60)
		if rnd.Intn(2) == 0 {
			n = 1 + rnd.Intn(4)
		}
		part := layout(rnd, n, anyKeys(rnd, n))
		at := rnd.Intn(len(part))
		part[at] = rnd.Int63n(int64(n + 2))
		if rnd.Intn(2) == 0 {
			part[at] = anyNumbers(rnd, 1)[0]
		}
		want, is := plainRead(part, n)
		cells := within(rnd, part, 2, len(part)+4)
		if is {
			right++
			wantRead(t, cells, 2, n, want)
		} else {
			wrong++
			wantNoRead(t, cells, 2, n, api.ErrSetForm)
		}
	}
	if right < 1000 || wrong < 1000 {
		t.Error("too little was changed", right, wrong)
	}
}

func TestReadOfLinksThatLeadNowhere(t *testing.T) {
	for _, link := range []int64{-1, 4, 5, 1 << 32, 1<<32 + 1, 1<<32 + 3, 1 << 62, math.MaxInt64, math.MinInt64, math.MinInt64 + 1, -1 << 32, 256} {
		for at, part := range map[int][]int64{
			0: {2, 1, 1, 9, 3, 4, 0, 0, 0},
			1: {2, 1, 1, 9, 3, 4, 0, 0, 0},
			2: {2, 1, 1, 9, 3, 4, 0, 0, 0},
			4: {2, 1, 1, 9, 3, 4, 0, 0, 0},
			6: {2, 1, 1, 9, 3, 4, 0, 0, 0},
			8: {2, 1, 1, 9, 3, 4, 0, 0, 0},
		} {
			wantRead(t, part, 0, 3, numbers(4))
			part[at] = link
			wantNoRead(t, part, 0, 3, api.ErrSetForm)
		}
	}
}

// P18.3

func TestDoOfEdges(t *testing.T) {
	edges := edgeKeys()
	for i := range edges {
		for j := i; j <= len(edges); j++ {
			for _, n := range []int{j - i, j - i + 1, 60} {
				if n == 0 {
					continue
				}
				for _, x := range edges {
					for _, d := range everyDeed(x) {
						after, told := plainDo(edges[i:j], n, d)
						wantDo(t, edges[i:j], n, d, after, told...)
					}
				}
			}
		}
	}
}

func TestDoOfRandomSets(t *testing.T) {
	rnd := rand.New(rand.NewSource(184))
	for range 5000 {
		n := 1 + rnd.Intn(60)
		keys := anyKeys(rnd, n)
		d := anyDeed(rnd, keys)
		after, told := plainDo(keys, n, d)
		wantDo(t, keys, n, d, after, told...)
	}
}

func TestDoByHand(t *testing.T) {
	low, top := int64(math.MinInt64), int64(math.MaxInt64)
	wantDo(t, nil, 1, put(0), numbers(0), 1)
	wantDo(t, numbers(0), 1, put(0), numbers(0), 0) // it is there: that there is no room is not told
	wantDo(t, numbers(0), 1, put(1), numbers(0), 2)
	wantDo(t, numbers(0), 2, put(low), numbers(low, 0), 1)
	wantDo(t, numbers(low), 2, put(top), numbers(low, top), 1)
	wantDo(t, numbers(low, top), 3, put(0), numbers(low, 0, top), 1)
	wantDo(t, numbers(low, top), 2, drop(top), numbers(low), 1)
	wantDo(t, numbers(low, top), 2, drop(low), numbers(top), 1)
	wantDo(t, numbers(low, top), 2, drop(0), numbers(low, top), 0)
	wantDo(t, nil, 1, drop(0), nil, 0)
	wantDo(t, numbers(0), 1, has(0), numbers(0), 1)
	wantDo(t, nil, 1, has(0), nil, 0)
	wantDo(t, numbers(low, 0), 2, least(), numbers(low, 0), 1, low)
	wantDo(t, numbers(0), 2, least(), numbers(0), 1, 0)
	wantDo(t, nil, 2, least(), nil, 0)
	wantDo(t, nil, 2, size(), nil, 0)
	wantDo(t, numbers(-1, 0), 2, size(), numbers(-1, 0), 2)
}

func TestDoOfTooManyKeys(t *testing.T) {
	for _, n := range setSizes() {
		keys := make([]int64, n+1, n+9)
		for i := range keys {
			keys[i] = int64(i)
		}
		for _, d := range everyDeed(3) {
			wantNoDo(t, keys, n, d)
			after, told := plainDo(keys[:n], n, d)
			wantDo(t, keys[:n], n, d, after, told...)
		}
	}
}

func TestDoOfKeysThatDoNotRise(t *testing.T) {
	for _, l := range [][]int64{{2, 1}, {1, 1}, {1, 2, 2}, {1, 1, 2}, {1, 3, 2}, {3, 1, 2}, {0, -1}, {math.MaxInt64, math.MinInt64}, {math.MinInt64, math.MinInt64}, {1, 2, 3, 4, 5, 6, 7, 7}, {0, 0, 0}} {
		for _, d := range []api.Deed{put(1), drop(1), has(1), least(), size()} {
			wantNoDo(t, l, 8, d)
			wantNoDo(t, l, 60, d)
		}
	}
}

func TestDoOfNoSet(t *testing.T) {
	for _, n := range noSizes() {
		for _, d := range []api.Deed{put(1), drop(1), has(1), least(), size()} {
			wantNoDo(t, nil, n, d)
			wantNoDo(t, numbers(1, 2, 3), n, d)
		}
	}
}

// Deeds that may not be, asked of Do and of Code alike.

func wantRefused(t *testing.T, d api.Deed) {
	t.Helper()
	wantNoDo(t, nil, 3, d)
	wantNoDo(t, numbers(1, 2, 3), 3, d)
	wantNoCode(t, 0, 3, d)
}

func TestDeedsOfNoOp(t *testing.T) {
	for _, op := range []int{math.MinInt, -1, 0, 6, 7, 22, 1 << 32, 1<<32 + 1, math.MaxInt} {
		wantRefused(t, api.Deed{Op: op})
		for _, d := range everyDeed(1) {
			wantRefused(t, withOp(d, op))
		}
	}
}

func TestDeedsWithFieldsThatAreNotTheirs(t *testing.T) {
	for _, k := range []int{1, -1, 2, 1 << 32, math.MaxInt, math.MinInt} {
		for _, d := range everyDeed(1) {
			wantRefused(t, withA(d, k))
			wantRefused(t, withB(d, k))
			wantRefused(t, withY(d, int64(k)))
		}
		wantRefused(t, withX(least(), int64(k)))
		wantRefused(t, withX(size(), int64(k)))
	}
}

// P18.4

func TestDeedsOfOneKeyLeaveTheOthers(t *testing.T) {
	rnd := rand.New(rand.NewSource(185))
	puts, drops := 0, 0
	for range 300 {
		n := 1 + rnd.Intn(8)
		l := []int64{}
		for range 40 {
			x := rnd.Int63n(12) - 3
			d := []api.Deed{put(x), drop(x), has(x)}[rnd.Intn(3)]
			after, told, e := set.Do(l, n, d)
			if e != api.OK {
				t.Fatal(l, d, e)
			}
			for other := int64(-4); other < 10; other++ {
				if other != x && slices.Contains(l, other) != slices.Contains(after, other) {
					t.Error(l, d, after)
				}
			}
			switch {
			case d.Op == api.SetPut && told[0] != 2:
				wantDo(t, after, n, has(x), after, 1)
				puts++
			case d.Op == api.SetDrop:
				wantDo(t, after, n, has(x), after, 0)
				drops++
			case d.Op == api.SetPut:
				wantDo(t, after, n, has(x), after, 0)
			default:
				wantDo(t, after, n, has(x), after, told[0])
			}
			l = after
		}
	}
	if puts < 1000 || drops < 1000 {
		t.Error("too little was done", puts, drops)
	}
}

// P18.6

func TestWhatIsHandedInIsNotChanged(t *testing.T) {
	for _, d := range []api.Deed{put(6), put(5), drop(5), drop(6), has(5), least(), size(), put(1), put(9)} {
		for _, n := range []int{2, 3, 4} {
			row := numbers(9, 5, 7, 0, 8, 8)
			kept := slices.Clone(row)
			// Behind the two there is room, which is not ours either.
			l, told, e := set.Do(row[1:3], n, d)
			if e != api.OK || !slices.Equal(row, kept) {
				t.Error(d, row, e)
			}
			spoil(l)
			spoil(told)
			if !slices.Equal(row, kept) {
				t.Error(d, row)
			}
			// The answers have nothing in common with a second call's, nor with one another.
			l2, told2, _ := set.Do(row[1:3], n, d)
			want, tells := plainDo(row[1:3], n, d)
			spoil(l)
			if !slices.Equal(l2, want) || !slices.Equal(told2, tells) {
				t.Error(d, l2, told2)
			}
			spoil(l2)
			if !slices.Equal(told2, tells) {
				t.Error(d, told2)
			}
		}
	}
}

func TestReadAnswersNewMemory(t *testing.T) {
	cells := numbers(7, 2, 1, 2, 9, 0, 4, 3, 6, 0, 8)
	kept := slices.Clone(cells)
	l, _ := set.Read(cells[:10], 1, 3)
	spoil(l)
	if !slices.Equal(cells, kept) {
		t.Error(cells)
	}
	l, _ = set.Read(cells, 1, 3)
	spoil(cells)
	if !slices.Equal(l, numbers(4, 6)) {
		t.Error(l)
	}
	first, _ := set.Start(3)
	want := slices.Clone(first)
	spoil(first)
	if l, _ = set.Start(3); !slices.Equal(l, want) {
		t.Error(l)
	}
}

func TestCodeAnswersNewMemory(t *testing.T) {
	for _, d := range []api.Deed{put(1), drop(1), has(1), least(), size()} {
		l := mustCode(t, 4, 3, d)
		kept := slices.Clone(l)
		l = l[:cap(l)]
		for i := range l {
			l[i] = api.Instr{Op: api.DoHalt, A: 9}
		}
		if again := mustCode(t, 4, 3, d); !slices.Equal(again, kept) {
			t.Error(d, again)
		}
	}
}

// spoil puts other numbers into a list, and into the room behind it.
func spoil(l []int64) {
	l = l[:cap(l)]
	for i := range l {
		l[i] = -12345
	}
}

// The chapter's examples

func TestExamples(t *testing.T) {
	if set.Room(3) != 9 || set.Room(61) != 0 {
		t.Error("room")
	}
	if l, e := set.Start(3); !slices.Equal(l, numbers(0, 1, 0, 0, 2, 0, 3, 0, 0)) || e != api.OK {
		t.Error(l, e)
	}
	wantRead(t, numbers(2, 1, 1, 9, 3, 4, 0, 0, 0), 0, 3, numbers(4))
	wantNoRead(t, numbers(1, 1, 1, 4, 0, 0, 3, 0, 0), 0, 3, api.ErrSetForm)
	wantNoRead(t, numbers(1, 0, 3, 1, 2, 2, 3, 3, 1), 0, 3, api.ErrSetForm)
	wantNoRead(t, numbers(1, 0, 3, 1, 2, 2, 3, 2, 0), 0, 3, api.ErrSetForm)
	wantNoRead(t, numbers(0, 1, 1, 0, 2, 0, 3, 0, 0), 0, 3, api.ErrSetForm)
	l := numbers(2, 5)
	wantDo(t, l, 3, put(3), numbers(2, 3, 5), 1)
	wantDo(t, l, 3, put(5), l, 0)
	wantDo(t, l, 3, drop(2), numbers(5), 1)
	wantDo(t, l, 3, has(4), l, 0)
	wantDo(t, l, 3, least(), l, 1, 2)
	wantDo(t, l, 3, size(), l, 2)
	wantDo(t, numbers(1, 2, 3), 3, put(4), numbers(1, 2, 3), 2)
	wantDo(t, nil, 3, least(), nil, 0)
	wantNoDo(t, numbers(2, 1), 3, size())
}
