package bank_test

import (
	"math"
	"math/big"
	"math/rand"
	"slices"
	"testing"

	"quash/api"
	"quash/bank"
)

// Deeds.

func payTo(a int, x int64) api.Deed    { return api.Deed{Op: api.BankPay, A: a, X: x} }
func takeFrom(a int, x int64) api.Deed { return api.Deed{Op: api.BankTake, A: a, X: x} }
func move(a, b int, x int64) api.Deed  { return api.Deed{Op: api.BankMove, A: a, B: b, X: x} }
func see(a int) api.Deed               { return api.Deed{Op: api.BankSee, A: a} }
func sumUp() api.Deed                  { return api.Deed{Op: api.BankSum} }

// everyDeed is one of each kind; each takes of a, b and x what it has.
func everyDeed(a, b int, x int64) []api.Deed {
	return []api.Deed{payTo(a, x), takeFrom(a, x), move(a, b, x), see(a), sumUp()}
}

// Deeds with one field changed.

func withOp(d api.Deed, op int) api.Deed { d.Op = op; return d }
func withA(d api.Deed, a int) api.Deed   { d.A = a; return d }
func withB(d api.Deed, b int) api.Deed   { d.B = b; return d }
func withX(d api.Deed, x int64) api.Deed { d.X = x; return d }
func withY(d api.Deed, y int64) api.Deed { d.Y = y; return d }

func balances(l ...int64) []int64 { return l }

func bankSizes() []int { return []int{1, 2, 3, 8, 63, 64} }

func noSizes() []int {
	return []int{math.MinInt, -64, -1, 0, 65, 66, 128, 256, 1 << 32, 1<<32 + 3, math.MaxInt}
}

// edgeBalances are those at which reckoning may go wrong.
func edgeBalances() []int64 {
	return []int64{0, 1, -1, 2, 6, 7, 8, -7, 1<<31 - 1, 1 << 31, 1<<31 + 1, -1 << 31, -1<<31 - 1, 1 << 32, 1 << 62,
		math.MaxInt64, math.MaxInt64 - 1, math.MaxInt64 - 1<<31, math.MaxInt64 - 1<<31 + 1, math.MinInt64, math.MinInt64 + 1, math.MinInt64 + 1<<31}
}

// edgePays are sums that a deed may have.
func edgePays() []int64 { return []int64{0, 1, 2, 6, 7, 8, 1<<31 - 1, 1 << 31} }

// noPays are sums that none may have.
func noPays() []int64 {
	return []int64{-1, -2, math.MinInt64, 1<<31 + 1, 1 << 32, 1<<32 + 1, math.MaxInt64}
}

// whole brings a number round modulo 2^64.
func whole(x *big.Int) int64 {
	m := new(big.Int).Mod(x, new(big.Int).Lsh(big.NewInt(1), 64))
	return int64(m.Uint64())
}

// plainDo is a deed as the chapter's table tells it, in numbers without an end.
func plainDo(l []int64, d api.Deed) ([]int64, int64) {
	after := slices.Clone(l)
	change := func(at int, x int64) {
		after[at] = whole(new(big.Int).Add(big.NewInt(after[at]), big.NewInt(x)))
	}
	there := d.Op != api.BankSum && big.NewInt(l[d.A]).Cmp(big.NewInt(d.X)) >= 0
	switch d.Op {
	case api.BankPay:
		change(d.A, d.X)
		return after, after[d.A]
	case api.BankTake, api.BankMove:
		if !there {
			return after, 0
		}
		change(d.A, -d.X)
		if d.Op == api.BankMove {
			change(d.B, d.X)
		}
		return after, 1
	case api.BankSee:
		return after, l[d.A]
	}
	return after, plainSum(l)
}

func plainSum(l []int64) int64 {
	total := new(big.Int)
	for _, x := range l {
		total.Add(total, big.NewInt(x))
	}
	return whole(total)
}

// anyBalances are some of a bank: small ones, and some at the edges.
func anyBalances(rnd *rand.Rand, n int) []int64 {
	l := make([]int64, n)
	edges := edgeBalances()
	for i := range l {
		switch rnd.Intn(3) {
		case 0:
			l[i] = edges[rnd.Intn(len(edges))]
		case 1:
			l[i] = int64(rnd.Uint64())
		default:
			l[i] = rnd.Int63n(20) - 4
		}
	}
	return l
}

// anyDeed is one that may be.
func anyDeed(rnd *rand.Rand, n int) api.Deed {
	pays := edgePays()
	l := everyDeed(rnd.Intn(n), rnd.Intn(n), pays[rnd.Intn(len(pays))])
	return l[rnd.Intn(len(l))]
}

func wantDo(t *testing.T, l []int64, d api.Deed, want []int64, told int64) {
	t.Helper()
	after, tells, e := bank.Do(l, len(l), d)
	if !slices.Equal(after, want) || !slices.Equal(tells, []int64{told}) || e != api.OK {
		t.Errorf("%v of %+v: %v %v %v, want %v %d", l, d, after, tells, e, want, told)
	}
}

func wantNoDo(t *testing.T, l []int64, n int, d api.Deed) {
	t.Helper()
	after, tells, e := bank.Do(l, n, d)
	if len(after) != 0 || len(tells) != 0 || e != api.ErrBankArg {
		t.Errorf("%v, %d accounts, of %+v: %v %v %v", l, n, d, after, tells, e)
	}
}

func wantNoCode(t *testing.T, base, n int, d api.Deed) {
	t.Helper()
	if l, e := bank.Code(base, n, d); len(l) != 0 || e != api.ErrBankArg {
		t.Errorf("base %d, %d accounts, of %+v: %v %v", base, n, d, l, e)
	}
}

func mustCode(t *testing.T, base, n int, d api.Deed) []api.Instr {
	t.Helper()
	l, e := bank.Code(base, n, d)
	if e != api.OK || len(l) == 0 {
		t.Fatalf("base %d, %d accounts, of %+v: %v %v", base, n, d, l, e)
	}
	return l
}
