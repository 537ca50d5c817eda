package deque_test

import (
	"math"
	"math/rand"
	"slices"
	"testing"

	"quash/api"
	"quash/deque"
)

// Deeds.

func push(x int64) api.Deed  { return api.Deed{Op: api.DequePush, X: x} }
func shove(x int64) api.Deed { return api.Deed{Op: api.DequeShove, X: x} }
func pop() api.Deed          { return api.Deed{Op: api.DequePop} }
func shift() api.Deed        { return api.Deed{Op: api.DequeShift} }
func size() api.Deed         { return api.Deed{Op: api.DequeSize} }

// everyDeed is one of each kind; each takes x, if it has a value.
func everyDeed(x int64) []api.Deed {
	return []api.Deed{push(x), shove(x), pop(), shift(), size()}
}

// Deeds with one field changed.

func withOp(d api.Deed, op int) api.Deed { d.Op = op; return d }
func withA(d api.Deed, a int) api.Deed   { d.A = a; return d }
func withB(d api.Deed, b int) api.Deed   { d.B = b; return d }
func withX(d api.Deed, x int64) api.Deed { d.X = x; return d }
func withY(d api.Deed, y int64) api.Deed { d.Y = y; return d }

func numbers(l ...int64) []int64 { return l }

func dequeSizes() []int { return []int{1, 2, 3, 7, 8, 99, 100} }

func noSizes() []int {
	return []int{math.MinInt, -100, -1, 0, 101, 102, 254, 256, 1 << 32, 1<<32 + 3, 1 << 62, 1<<63 - 1}
}

// edgeNumbers are those at which a comparison or a sum may go wrong.
func edgeNumbers() []int64 {
	return []int64{math.MinInt64, math.MinInt64 + 1, -1 << 32, -1<<31 - 1, -1 << 31, -2, -1, 0, 1, 2, 100, 1<<31 - 1, 1 << 31, 1 << 32, 1<<32 + 1, 1 << 62, math.MaxInt64 - 1, math.MaxInt64}
}

// anyNumbers are of all sorts: small ones, edges, others.
func anyNumbers(rnd *rand.Rand, n int) []int64 {
	l := make([]int64, n)
	edges := edgeNumbers()
	for i := range l {
		switch rnd.Intn(3) {
		case 0:
			l[i] = edges[rnd.Intn(len(edges))]
		case 1:
			l[i] = int64(rnd.Uint64())
		default:
			l[i] = rnd.Int63n(20) - 4
		}
	}
	return l
}

func anyNumber(rnd *rand.Rand) int64 { return anyNumbers(rnd, 1)[0] }

// anyRow has the values of a deque: at most n; now and then none, or just as many.
func anyRow(rnd *rand.Rand, n int) []int64 {
	many := rnd.Intn(n + 1)
	switch rnd.Intn(5) {
	case 0:
		many = n
	case 1:
		many = 0
	}
	return anyNumbers(rnd, many)
}

// anyDeed is one that may be.
func anyDeed(rnd *rand.Rand) api.Deed {
	deeds := everyDeed(anyNumber(rnd))
	return deeds[rnd.Intn(len(deeds))]
}

// ring are the cells of a deque with those values, from that front's place on; the other places hold any.
func ring(rnd *rand.Rand, n, front int, l []int64) []int64 {
	part := append(numbers(int64(front), int64(len(l))), anyNumbers(rnd, n)...)
	at := front
	for _, x := range l {
		part[2+at] = x
		at++
		if at == n {
			at = 0
		}
	}
	return part
}

// layout is a ring whose front is at any place.
func layout(rnd *rand.Rand, n int, l []int64) []int64 { return ring(rnd, n, rnd.Intn(n), l) }

// within are cells of which those from base on are the part's, and the others any.
func within(rnd *rand.Rand, part []int64, base, cells int) []int64 {
	l := anyNumbers(rnd, cells)
	copy(l[base:], part)
	return l
}

// plainRead is what the chapter says of cells: the values, and whether they are of a deque.
func plainRead(part []int64, n int) ([]int64, bool) {
	places := slices.Clone(part[2:])
	var turned []int64 // the places, the front's first
	for front := range n {
		if part[0] == int64(front) {
			turned = append(places[front:], places[:front]...)
		}
	}
	for many := 0; turned != nil && many <= n; many++ {
		if part[1] == int64(many) {
			return turned[:many], true
		}
	}
	return nil, false
}

// plainDo is a deed as the chapter's table tells it.
func plainDo(l []int64, n int, d api.Deed) (after, told []int64) {
	row := append([]int64{}, l...)
	room, some := len(row) < n, len(row) > 0
	switch {
	case d.Op == api.DequePush && room:
		return append(row, d.X), numbers(1)
	case d.Op == api.DequeShove && room:
		return append(numbers(d.X), row...), numbers(1)
	case d.Op == api.DequePop && some:
		return row[:len(row)-1], numbers(1, row[len(row)-1])
	case d.Op == api.DequeShift && some:
		return row[1:], numbers(1, row[0])
	case d.Op == api.DequeSize:
		return row, numbers(int64(len(row)))
	}
	return row, numbers(0)
}

func wantRead(t *testing.T, cells []int64, base, n int, want []int64) {
	t.Helper()
	if l, e := deque.Read(cells, base, n); !slices.Equal(l, want) || e != api.OK {
		t.Errorf("%v from %d, size %d: %v %v, want %v", cells, base, n, l, e, want)
	}
}

func wantNoRead(t *testing.T, cells []int64, base, n int, want api.Errno) {
	t.Helper()
	if l, e := deque.Read(cells, base, n); len(l) != 0 || e != want {
		t.Errorf("%v from %d, size %d: %v %v, want %v", cells, base, n, l, e, want)
	}
}

func wantDo(t *testing.T, l []int64, n int, d api.Deed, want []int64, told ...int64) {
	t.Helper()
	after, tells, e := deque.Do(l, n, d)
	if !slices.Equal(after, want) || !slices.Equal(tells, told) || e != api.OK {
		t.Errorf("%v, size %d, of %+v: %v %v %v, want %v %v", l, n, d, after, tells, e, want, told)
	}
}

func wantNoDo(t *testing.T, l []int64, n int, d api.Deed) {
	t.Helper()
	after, tells, e := deque.Do(l, n, d)
	if len(after) != 0 || len(tells) != 0 || e != api.ErrDequeArg {
		t.Errorf("%v, size %d, of %+v: %v %v %v", l, n, d, after, tells, e)
	}
}

func wantNoCode(t *testing.T, base, n int, d api.Deed) {
	t.Helper()
	if l, e := deque.Code(base, n, d); len(l) != 0 || e != api.ErrDequeArg {
		t.Errorf("base %d, size %d, of %+v: %v %v", base, n, d, l, e)
	}
}

func mustCode(t *testing.T, base, n int, d api.Deed) []api.Instr {
	t.Helper()
	l, e := deque.Code(base, n, d)
	if e != api.OK || len(l) == 0 {
		t.Fatalf("base %d, size %d, of %+v: %v %v", base, n, d, l, e)
	}
	return l
}

func mustStart(t *testing.T, n int) []int64 {
	t.Helper()
	l, e := deque.Start(n)
	if e != api.OK {
		t.Fatal(e)
	}
	return l
}
