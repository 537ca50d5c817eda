package set_test

import (
	"math"
	"math/rand"
	"slices"
	"testing"

	"quash/api"
	"quash/set"
)

// Deeds.

func put(x int64) api.Deed  { return api.Deed{Op: api.SetPut, X: x} }
func drop(x int64) api.Deed { return api.Deed{Op: api.SetDrop, X: x} }
func has(x int64) api.Deed  { return api.Deed{Op: api.SetHas, X: x} }
func least() api.Deed       { return api.Deed{Op: api.SetLeast} }
func size() api.Deed        { return api.Deed{Op: api.SetSize} }

// everyDeed is one of each kind; each takes x, if it has a key.
func everyDeed(x int64) []api.Deed {
	return []api.Deed{put(x), drop(x), has(x), least(), size()}
}

// Deeds with one field changed.

func withOp(d api.Deed, op int) api.Deed { d.Op = op; return d }
func withA(d api.Deed, a int) api.Deed   { d.A = a; return d }
func withB(d api.Deed, b int) api.Deed   { d.B = b; return d }
func withX(d api.Deed, x int64) api.Deed { d.X = x; return d }
func withY(d api.Deed, y int64) api.Deed { d.Y = y; return d }

func numbers(l ...int64) []int64 { return l }

func setSizes() []int { return []int{1, 2, 3, 8, 59, 60} }

func noSizes() []int {
	return []int{math.MinInt, -60, -1, 0, 61, 62, 128, 256, 1 << 32, 1<<32 + 3, 1 << 62, 1<<63 - 1}
}

// edgeKeys are those at which an order may go wrong; they rise.
func edgeKeys() []int64 {
	return []int64{math.MinInt64, math.MinInt64 + 1, -1 << 32, -1<<31 - 1, -1 << 31, -2, -1, 0, 1, 2, 1<<31 - 1, 1 << 31, 1 << 32, 1<<32 + 1, 1 << 62, math.MaxInt64 - 1, math.MaxInt64}
}

// anyNumbers are of all sorts: small ones, edges, others.
func anyNumbers(rnd *rand.Rand, n int) []int64 {
	l := make([]int64, n)
	edges := edgeKeys()
	for i := range l {
		switch rnd.Intn(3) {
		case 0:
			l[i] = edges[rnd.Intn(len(edges))]
		case 1:
			l[i] = int64(rnd.Uint64())
		default:
			l[i] = rnd.Int63n(20) - 4
		}
	}
	return l
}

// anyKeys are those of a set: at most n, rising.
func anyKeys(rnd *rand.Rand, n int) []int64 {
	l := anyNumbers(rnd, rnd.Intn(n+1))
	if rnd.Intn(3) == 0 {
		l = anyNumbers(rnd, n)
	}
	slices.Sort(l)
	return slices.Compact(l)
}

// anyDeed is one that may be: of a key that is there, of one beside it, or of any.
func anyDeed(rnd *rand.Rand, keys []int64) api.Deed {
	x := anyNumbers(rnd, 1)[0]
	if len(keys) > 0 && rnd.Intn(2) == 0 {
		x = keys[rnd.Intn(len(keys))]
		if rnd.Intn(3) == 0 {
			x += rnd.Int63n(3) - 1
		}
	}
	l := everyDeed(x)
	return l[rnd.Intn(len(l))]
}

// layout are the cells of a set with those keys, whose nodes stand in any order, as do the free ones, which have any keys.
func layout(rnd *rand.Rand, n int, keys []int64) []int64 {
	part := make([]int64, 3+2*n)
	nodes := rnd.Perm(n)
	at := 0 // the cell that leads on
	for i, node := range nodes {
		if i == len(keys) {
			at = 1
		}
		part[at] = int64(node + 1)
		part[3+2*node] = anyNumbers(rnd, 1)[0]
		if i < len(keys) {
			part[3+2*node] = keys[i]
		}
		at = 4 + 2*node
	}
	part[2] = int64(len(keys))
	return part
}

// within are cells of which those from base on are the part's, and the others any.
func within(rnd *rand.Rand, part []int64, base, cells int) []int64 {
	l := anyNumbers(rnd, cells)
	copy(l[base:], part)
	return l
}

// plainRead is what the chapter says of cells: the keys, and whether they are of a set.
func plainRead(part []int64, n int) ([]int64, bool) {
	lists := [2][]int64{}
	for i := range lists {
		at := part[i]
		for at != 0 {
			if at < 0 || at > int64(n) || len(lists[i]) == n {
				return nil, false
			}
			lists[i] = append(lists[i], at)
			at = part[4+2*(at-1)]
		}
	}
	all := slices.Sorted(slices.Values(slices.Concat(lists[0], lists[1])))
	if len(all) != n || len(slices.Compact(all)) != n || part[2] != int64(len(lists[0])) {
		return nil, false
	}
	var keys []int64
	for _, at := range lists[0] {
		keys = append(keys, part[3+2*(at-1)])
	}
	for i := 1; i < len(keys); i++ {
		if keys[i-1] >= keys[i] {
			return nil, false
		}
	}
	return keys, true
}

// plainDo is a deed as the chapter's table tells it, key by key.
func plainDo(l []int64, n int, d api.Deed) (after, told []int64) {
	there := false
	var others []int64
	for _, x := range l {
		if x == d.X {
			there = true
		} else {
			others = append(others, x)
		}
	}
	is := int64(0)
	if there {
		is = 1
	}
	switch d.Op {
	case api.SetPut:
		if there {
			return slices.Clone(l), numbers(0)
		}
		if len(l) >= n {
			return slices.Clone(l), numbers(2)
		}
		return slices.Sorted(slices.Values(append(others, d.X))), numbers(1)
	case api.SetDrop:
		return others, numbers(is)
	case api.SetHas:
		return slices.Clone(l), numbers(is)
	case api.SetLeast:
		if len(l) == 0 {
			return nil, numbers(0)
		}
		return slices.Clone(l), numbers(1, slices.Min(l))
	}
	return slices.Clone(l), numbers(int64(len(l)))
}

func wantRead(t *testing.T, cells []int64, base, n int, want []int64) {
	t.Helper()
	if l, e := set.Read(cells, base, n); !slices.Equal(l, want) || e != api.OK {
		t.Errorf("%v from %d, size %d: %v %v, want %v", cells, base, n, l, e, want)
	}
}

func wantNoRead(t *testing.T, cells []int64, base, n int, want api.Errno) {
	t.Helper()
	if l, e := set.Read(cells, base, n); len(l) != 0 || e != want {
		t.Errorf("%v from %d, size %d: %v %v, want %v", cells, base, n, l, e, want)
	}
}

func wantDo(t *testing.T, l []int64, n int, d api.Deed, want []int64, told ...int64) {
	t.Helper()
	after, tells, e := set.Do(l, n, d)
	if !slices.Equal(after, want) || !slices.Equal(tells, told) || e != api.OK {
		t.Errorf("%v, size %d, of %+v: %v %v %v, want %v %v", l, n, d, after, tells, e, want, told)
	}
}

func wantNoDo(t *testing.T, l []int64, n int, d api.Deed) {
	t.Helper()
	after, tells, e := set.Do(l, n, d)
	if len(after) != 0 || len(tells) != 0 || e != api.ErrSetArg {
		t.Errorf("%v, size %d, of %+v: %v %v %v", l, n, d, after, tells, e)
	}
}

func wantNoCode(t *testing.T, base, n int, d api.Deed) {
	t.Helper()
	if l, e := set.Code(base, n, d); len(l) != 0 || e != api.ErrSetArg {
		t.Errorf("base %d, size %d, of %+v: %v %v", base, n, d, l, e)
	}
}

func mustCode(t *testing.T, base, n int, d api.Deed) []api.Instr {
	t.Helper()
	l, e := set.Code(base, n, d)
	if e != api.OK || len(l) == 0 {
		t.Fatalf("base %d, size %d, of %+v: %v %v", base, n, d, l, e)
	}
	return l
}
