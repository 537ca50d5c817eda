package bank_test

import (
	"math"
	"math/rand"
	"slices"
	"testing"

	"quash/api"
	"quash/bank"
)

// P17.1

func TestRoom(t *testing.T) {
	for n := -10; n <= 300; n++ {
		want := 0
		if 1 <= n && n <= 64 {
			want = n
		}
		if room := bank.Room(n); room != want {
			t.Error(n, room)
		}
	}
	for _, n := range noSizes() {
		if room := bank.Room(n); room != 0 {
			t.Error(n, room)
		}
	}
}

func TestStart(t *testing.T) {
	for n := 1; n <= 64; n++ {
		if l, e := bank.Start(n); !slices.Equal(l, make([]int64, n)) || e != api.OK {
			t.Error(n, l, e)
		}
	}
	for _, n := range noSizes() {
		if l, e := bank.Start(n); len(l) != 0 || e != api.ErrBankArg {
			t.Error(n, l, e)
		}
	}
}

// P17.2

func TestReadIsTheBalances(t *testing.T) {
	rnd := rand.New(rand.NewSource(172))
	for _, n := range bankSizes() {
		for _, base := range []int{0, 1, 7, 192} {
			for _, behind := range []int{0, 1, 50} {
				cells := anyBalances(rnd, base+n+behind)
				l, e := bank.Read(cells, base, n)
				if !slices.Equal(l, cells[base:base+n]) || e != api.OK {
					t.Error(base, n, behind, l, e)
				}
			}
		}
	}
}

func TestReadOfCellsOfAnyNumber(t *testing.T) {
	// More cells than a space has are no fault of the list.
	cells := make([]int64, 1000)
	cells[999] = 5
	if l, e := bank.Read(cells, 998, 2); !slices.Equal(l, balances(0, 5)) || e != api.OK {
		t.Error(l, e)
	}
}

func TestReadOfTooFewCells(t *testing.T) {
	for _, n := range bankSizes() {
		for _, many := range []int{0, 1, n - 1, n, n + 1, 256} {
			cells := make([]int64, many, many+100) // room behind them is no cell
			for _, base := range []int{math.MinInt, -n, -1, 0, 1, many - n, many - n + 1, many, many + 1, math.MaxInt - n, math.MaxInt - n + 1, math.MaxInt} {
				l, e := bank.Read(cells, base, n)
				if base >= 0 && base <= many-n {
					if len(l) != n || e != api.OK {
						t.Error(n, many, base, l, e)
					}
				} else if len(l) != 0 || e != api.ErrBankArg {
					t.Error(n, many, base, l, e)
				}
			}
		}
		if l, e := bank.Read(nil, 0, n); len(l) != 0 || e != api.ErrBankArg {
			t.Error(n, l, e)
		}
	}
}

func TestReadOfNoBank(t *testing.T) {
	for _, n := range noSizes() {
		for _, base := range []int{0, 1, 10, -1, math.MaxInt} {
			if l, e := bank.Read(make([]int64, 256), base, n); len(l) != 0 || e != api.ErrBankArg {
				t.Error(n, base, l, e)
			}
		}
		if l, e := bank.Read(nil, 0, n); len(l) != 0 || e != api.ErrBankArg {
			t.Error(n, l, e)
		}
	}
}

// P17.3

func TestDoOfEdges(t *testing.T) {
	for _, x := range edgePays() {
		for _, a := range edgeBalances() {
			for _, b := range edgeBalances() {
				l := balances(b, 3, a)
				for _, d := range slices.Concat(everyDeed(2, 0, x), everyDeed(2, 2, x)) {
					after, told := plainDo(l, d)
					wantDo(t, l, d, after, told)
				}
			}
		}
	}
}

func TestDoOfEveryAccount(t *testing.T) {
	rnd := rand.New(rand.NewSource(173))
	for _, n := range bankSizes() {
		l := anyBalances(rnd, n)
		for a := range n {
			for b := range n {
				for _, d := range everyDeed(a, b, 3) {
					after, told := plainDo(l, d)
					wantDo(t, l, d, after, told)
				}
			}
		}
	}
}

func TestDoByHand(t *testing.T) {
	top, low := int64(math.MaxInt64), int64(math.MinInt64)
	wantDo(t, balances(top, 1), payTo(0, 1), balances(low, 1), low)
	wantDo(t, balances(top, 5), move(1, 0, 5), balances(low+4, 0), 1)
	wantDo(t, balances(low), takeFrom(0, 0), balances(low), 0)
	wantDo(t, balances(-1), takeFrom(0, 0), balances(-1), 0)
	wantDo(t, balances(0), takeFrom(0, 0), balances(0), 1)
	wantDo(t, balances(-1, 4), move(0, 1, 0), balances(-1, 4), 0)
	wantDo(t, balances(low, 4), move(0, 1, 1<<31), balances(low, 4), 0)
	wantDo(t, balances(1<<31, -1), move(0, 1, 1<<31), balances(0, 1<<31-1), 1)
	wantDo(t, balances(6), move(0, 0, 6), balances(6), 1)
	wantDo(t, balances(6), move(0, 0, 7), balances(6), 0)
	wantDo(t, balances(top, 1), sumUp(), balances(top, 1), low)
	wantDo(t, balances(low, low), sumUp(), balances(low, low), 0)
	wantDo(t, balances(low, 1), see(0), balances(low, 1), low)
	wantDo(t, balances(4), payTo(0, 0), balances(4), 4)
}

func TestDoOfAnotherNumberOfBalances(t *testing.T) {
	for _, n := range bankSizes() {
		for _, many := range []int{0, 1, n - 1, n + 1, 64, 65, 256} {
			if many == n {
				continue
			}
			for _, d := range everyDeed(0, 0, 1) {
				wantNoDo(t, make([]int64, many, many+n), n, d)
			}
		}
	}
	wantNoDo(t, nil, 1, see(0))
}

func TestDoOfNoBank(t *testing.T) {
	for _, n := range noSizes() {
		for _, d := range everyDeed(0, 0, 1) {
			wantNoDo(t, nil, n, d)
			wantNoDo(t, make([]int64, 3), n, d)
			if n >= 0 && n <= 1000 {
				wantNoDo(t, make([]int64, n), n, d)
			}
		}
	}
}

// Deeds that may not be, asked of Do and of Code alike.

// wantRefused asks for a deed in a bank of n accounts.
func wantRefused(t *testing.T, n int, d api.Deed) {
	t.Helper()
	wantNoDo(t, make([]int64, n), n, d)
	wantNoCode(t, 0, n, d)
}

func TestDeedsOfNoOp(t *testing.T) {
	for _, op := range []int{math.MinInt, -1, 0, 6, 7, 22, 1 << 32, 1<<32 + 1, math.MaxInt} {
		wantRefused(t, 3, api.Deed{Op: op})
		for _, d := range everyDeed(1, 2, 1) {
			wantRefused(t, 3, withOp(d, op))
		}
	}
}

func TestDeedsOfNoAccount(t *testing.T) {
	for _, n := range bankSizes() {
		for _, no := range []int{math.MinInt, -n, -1, n, n + 1, 255, 1 << 32, math.MaxInt} {
			for _, d := range everyDeed(0, 0, 1) {
				// Of a field that a deed does not have anything but 0 is wrong.
				wantRefused(t, n, withA(d, no))
				wantRefused(t, n, withB(d, no))
				wantRefused(t, n, withA(withB(d, no), no))
			}
		}
	}
}

func TestDeedsOfNoSum(t *testing.T) {
	for _, x := range noPays() {
		for _, d := range everyDeed(1, 2, 1) {
			wantRefused(t, 3, withX(d, x))
		}
	}
}

func TestDeedsWithFieldsThatAreNotTheirs(t *testing.T) {
	for _, y := range []int64{1, -1, 2, 1 << 31, math.MaxInt64, math.MinInt64, 1 << 32} {
		for _, d := range everyDeed(1, 2, 1) {
			wantRefused(t, 3, withY(d, y))
		}
		wantRefused(t, 3, withX(see(1), y))
		wantRefused(t, 3, withX(sumUp(), y))
	}
	for _, k := range []int{1, 2} {
		wantRefused(t, 3, withB(payTo(1, 1), k))
		wantRefused(t, 3, withB(takeFrom(1, 1), k))
		wantRefused(t, 3, withB(see(1), k))
		wantRefused(t, 3, withB(sumUp(), k))
		wantRefused(t, 3, withA(sumUp(), k))
	}
}

// P17.4

func TestTheSumStays(t *testing.T) {
	rnd := rand.New(rand.NewSource(174))
	moved := 0
	for range 1000 {
		n := bankSizes()[rnd.Intn(len(bankSizes()))]
		l := anyBalances(rnd, n)
		total := plainSum(l)
		for range 30 {
			d := anyDeed(rnd, n)
			if d.Op == api.BankPay || d.Op == api.BankTake {
				continue
			}
			after, told, e := bank.Do(l, n, d)
			if e != api.OK || plainSum(after) != total {
				t.Fatal(l, d, after, e)
			}
			if d.Op == api.BankSum && told[0] != total {
				t.Error(l, told, total)
			}
			if !slices.Equal(l, after) {
				moved++
			}
			l = after
		}
	}
	if moved < 500 {
		t.Error("too little was moved", moved)
	}
}

// P17.6

func TestWhatIsHandedInIsNotChanged(t *testing.T) {
	for _, d := range everyDeed(0, 1, 2) {
		row := balances(9, 5, 7, 0, 8, 8)
		kept := slices.Clone(row)
		// Behind the three there is room, which is not ours either.
		l, told, e := bank.Do(row[1:4], 3, d)
		if e != api.OK || !slices.Equal(row, kept) {
			t.Error(d, row, e)
		}
		spoil(l)
		spoil(told)
		if !slices.Equal(row, kept) {
			t.Error(d, row)
		}
		// The answers have nothing in common with a second call's, nor with one another.
		l2, told2, _ := bank.Do(row[1:4], 3, d)
		want, tells := plainDo(row[1:4], d)
		spoil(l)
		if !slices.Equal(l2, want) || !slices.Equal(told2, []int64{tells}) {
			t.Error(d, l2, told2)
		}
		spoil(l2)
		if !slices.Equal(told2, []int64{tells}) {
			t.Error(d, told2)
		}
	}
}

func TestReadAnswersNewMemory(t *testing.T) {
	cells := balances(9, 5, 7, 0, 8, 8)
	kept := slices.Clone(cells)
	l, _ := bank.Read(cells, 1, 3)
	spoil(l)
	if !slices.Equal(cells, kept) {
		t.Error(cells)
	}
	l, _ = bank.Read(cells, 1, 3)
	spoil(cells)
	if !slices.Equal(l, balances(5, 7, 0)) {
		t.Error(l)
	}
	l, _ = bank.Start(3)
	spoil(l)
	if l, _ = bank.Start(3); !slices.Equal(l, balances(0, 0, 0)) {
		t.Error(l)
	}
}

func TestCodeAnswersNewMemory(t *testing.T) {
	for _, d := range everyDeed(0, 1, 2) {
		l := mustCode(t, 4, 3, d)
		kept := slices.Clone(l)
		l = l[:cap(l)]
		for i := range l {
			l[i] = api.Instr{Op: api.DoHalt, A: 9}
		}
		if again := mustCode(t, 4, 3, d); !slices.Equal(again, kept) {
			t.Error(d, again)
		}
	}
}

// spoil puts other numbers into a list, and into the room behind it.
func spoil(l []int64) {
	l = l[:cap(l)]
	for i := range l {
		l[i] = -12345
	}
}

// The chapter's examples

func TestExamples(t *testing.T) {
	if bank.Room(3) != 3 || bank.Room(0) != 0 || bank.Room(65) != 0 {
		t.Error("room")
	}
	if l, e := bank.Start(2); !slices.Equal(l, balances(0, 0)) || e != api.OK {
		t.Error(l, e)
	}
	l := balances(5, 7, 0)
	wantDo(t, l, move(0, 2, 5), balances(0, 7, 5), 1)
	wantDo(t, l, move(0, 2, 6), balances(5, 7, 0), 0)
	wantDo(t, l, takeFrom(1, 7), balances(5, 0, 0), 1)
	wantDo(t, l, sumUp(), balances(5, 7, 0), 12)
	wantDo(t, l, payTo(1, 1), balances(5, 8, 0), 8)
	for _, d := range []api.Deed{withX(see(0), 1), payTo(3, 0), payTo(0, -1), {Op: 6}} {
		wantNoDo(t, l, 3, d)
	}
	wantNoCode(t, 254, 3, sumUp())
	mustCode(t, 253, 3, sumUp())
	wantNoCode(t, -1, 3, sumUp())
}
