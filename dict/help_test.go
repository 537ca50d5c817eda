package dict_test

import (
	"math"
	"math/rand"
	"slices"
	"testing"

	"quash/api"
	"quash/dict"
)

// Deeds.

func put(x, y int64) api.Deed { return api.Deed{Op: api.DictPut, X: x, Y: y} }
func get(x int64) api.Deed    { return api.Deed{Op: api.DictGet, X: x} }
func drop(x int64) api.Deed   { return api.Deed{Op: api.DictDrop, X: x} }
func add(x, y int64) api.Deed { return api.Deed{Op: api.DictAdd, X: x, Y: y} }
func size() api.Deed          { return api.Deed{Op: api.DictSize} }

// everyDeed is one of each kind; each takes x, if it has a key, and y, if it has a value.
func everyDeed(x, y int64) []api.Deed {
	return []api.Deed{put(x, y), get(x), drop(x), add(x, y), size()}
}

// Deeds with one field changed.

func withOp(d api.Deed, op int) api.Deed { d.Op = op; return d }
func withA(d api.Deed, a int) api.Deed   { d.A = a; return d }
func withB(d api.Deed, b int) api.Deed   { d.B = b; return d }
func withX(d api.Deed, x int64) api.Deed { d.X = x; return d }
func withY(d api.Deed, y int64) api.Deed { d.Y = y; return d }

func numbers(l ...int64) []int64 { return l }

// entries are of keys and values by turns.
func entries(l ...int64) []api.Entry {
	var out []api.Entry
	for i := 0; i < len(l); i += 2 {
		out = append(out, api.Entry{Key: l[i], X: l[i+1]})
	}
	return out
}

func dictSizes() []int { return []int{1, 2, 3, 8, 59, 60} }

func noSizes() []int {
	return []int{math.MinInt, -60, -1, 0, 61, 62, 85, 256, 1 << 32, 1<<32 + 3, 1 << 62, 1<<63 - 1}
}

// edgeNumbers are those at which an order, a home or a sum may go wrong; they rise.
func edgeNumbers() []int64 {
	return []int64{math.MinInt64, math.MinInt64 + 1, -1 << 32, -1<<31 - 1, -1 << 31, -60, -2, -1, 0, 1, 2, 60, 1<<31 - 1, 1 << 31, 1 << 32, 1<<32 + 1, 1 << 62, math.MaxInt64 - 1, math.MaxInt64}
}

// anyNumbers are of all sorts: small ones, edges, others.
func anyNumbers(rnd *rand.Rand, n int) []int64 {
	l := make([]int64, n)
	edges := edgeNumbers()
	for i := range l {
		switch rnd.Intn(3) {
		case 0:
			l[i] = edges[rnd.Intn(len(edges))]
		case 1:
			l[i] = int64(rnd.Uint64())
		default:
			l[i] = rnd.Int63n(20) - 4
		}
	}
	return l
}

func anyNumber(rnd *rand.Rand) int64 { return anyNumbers(rnd, 1)[0] }

// of are entries with those keys, which it puts in order, and any values.
func of(rnd *rand.Rand, keys []int64) []api.Entry {
	var l []api.Entry
	for _, key := range slices.Compact(slices.Sorted(slices.Values(keys))) {
		l = append(l, api.Entry{Key: key, X: anyNumber(rnd)})
	}
	return l
}

// anyEntries are those of a dict: at most n, of rising keys; now and then all keys have one home.
func anyEntries(rnd *rand.Rand, n int) []api.Entry {
	many := rnd.Intn(n + 1)
	if rnd.Intn(3) == 0 {
		many = n
	}
	keys := anyNumbers(rnd, many)
	if rnd.Intn(4) == 0 {
		left := rnd.Int63n(int64(n))
		for i := range keys {
			keys[i] = left + int64(n)*(rnd.Int63n(80)-40)
		}
	}
	return of(rnd, keys)
}

// anyDeed is one that may be: of a key that is there, of one beside it, of one of the same home, or of any.
func anyDeed(rnd *rand.Rand, n int, l []api.Entry) api.Deed {
	x := anyNumber(rnd)
	if len(l) > 0 && rnd.Intn(3) > 0 {
		x = l[rnd.Intn(len(l))].Key
		switch rnd.Intn(4) {
		case 0:
			x += rnd.Int63n(3) - 1
		case 1:
			x += int64(n) * (rnd.Int63n(3) - 1)
		}
	}
	deeds := everyDeed(x, anyNumber(rnd))
	return deeds[rnd.Intn(len(deeds))]
}

// plainHome is a key's home, found by going through all places.
func plainHome(key int64, n int) int {
	for place := range n {
		if (key%int64(n)-int64(place))%int64(n) == 0 {
			return place
		}
	}
	return -1
}

// layout are the cells of a dict with those entries. They came in any order, each to its home or behind it, or, now and then, far behind it; places on their ways that are not used are gone, others free or gone; both have any keys and values, also such as are there.
func layout(rnd *rand.Rand, n int, l []api.Entry) []int64 {
	part := make([]int64, 1+3*n)
	far := rnd.Intn(3) == 0
	taken, needed := make([]bool, n), make([]bool, n)
	for _, i := range rnd.Perm(len(l)) {
		home := plainHome(l[i].Key, n)
		at := home
		if far {
			at = rnd.Intn(n)
		}
		for taken[at] {
			at = (at + 1) % n
		}
		taken[at] = true
		part[1+3*at], part[2+3*at], part[3+3*at] = 1, l[i].Key, l[i].X
		for ; home != at; home = (home + 1) % n {
			needed[home] = true
		}
	}
	part[0] = int64(len(l))
	gone := rnd.Intn(3) // none but those that must be, half of them, all
	for place := range n {
		if taken[place] {
			continue
		}
		part[2+3*place], part[3+3*place] = anyNumber(rnd), anyNumber(rnd)
		if len(l) > 0 && rnd.Intn(2) == 0 {
			part[2+3*place] = l[rnd.Intn(len(l))].Key
		}
		if needed[place] || gone == 2 || gone == 1 && rnd.Intn(2) == 0 {
			part[1+3*place] = 2
		}
	}
	return part
}

// within are cells of which those from base on are the part's, and the others any.
func within(rnd *rand.Rand, part []int64, base, cells int) []int64 {
	l := anyNumbers(rnd, cells)
	copy(l[base:], part)
	return l
}

// plainRead is what the chapter says of cells: the entries, and whether they are of a dict.
func plainRead(part []int64, n int) ([]api.Entry, bool) {
	var l []api.Entry
	for place := range n {
		state, key := part[1+3*place], part[2+3*place]
		if state < 0 || state > 2 {
			return nil, false
		}
		if state != 1 {
			continue
		}
		if slices.ContainsFunc(l, func(e api.Entry) bool { return e.Key == key }) {
			return nil, false
		}
		l = append(l, api.Entry{Key: key, X: part[3+3*place]})
		for behind := range n {
			at := (plainHome(key, n) + behind) % n
			if at == place {
				break
			}
			if part[1+3*at] == 0 {
				return nil, false
			}
		}
	}
	if part[0] != int64(len(l)) {
		return nil, false
	}
	return sorted(l), true
}

// sorted puts entries in order, the least one of what is left at a time.
func sorted(l []api.Entry) []api.Entry {
	for i := range l {
		for j := i + 1; j < len(l); j++ {
			if l[j].Key < l[i].Key {
				l[i], l[j] = l[j], l[i]
			}
		}
	}
	return l
}

// plainDo is a deed as the chapter's table tells it, entry by entry.
func plainDo(l []api.Entry, n int, d api.Deed) (after []api.Entry, told []int64) {
	if d.Op == api.DictSize {
		return slices.Clone(l), numbers(int64(len(l)))
	}
	var has []api.Entry
	var others []api.Entry
	for _, e := range l {
		if e.Key == d.X {
			has = append(has, e)
		} else {
			others = append(others, e)
		}
	}
	if len(has) == 0 {
		if d.Op != api.DictPut {
			return others, numbers(0)
		}
		if len(l) >= n {
			return others, numbers(2)
		}
		return sorted(append(others, api.Entry{Key: d.X, X: d.Y})), numbers(1)
	}
	x := has[0].X
	switch d.Op {
	case api.DictPut:
		return sorted(append(others, api.Entry{Key: d.X, X: d.Y})), numbers(0)
	case api.DictDrop:
		return others, numbers(1)
	case api.DictAdd:
		return sorted(append(others, api.Entry{Key: d.X, X: x + d.Y})), numbers(1, x+d.Y)
	}
	return slices.Clone(l), numbers(1, x)
}

func wantRead(t *testing.T, cells []int64, base, n int, want []api.Entry) {
	t.Helper()
	if l, e := dict.Read(cells, base, n); !slices.Equal(l, want) || e != api.OK {
		t.Errorf("%v from %d, size %d: %v %v, want %v", cells, base, n, l, e, want)
	}
}

func wantNoRead(t *testing.T, cells []int64, base, n int, want api.Errno) {
	t.Helper()
	if l, e := dict.Read(cells, base, n); len(l) != 0 || e != want {
		t.Errorf("%v from %d, size %d: %v %v, want %v", cells, base, n, l, e, want)
	}
}

func wantDo(t *testing.T, l []api.Entry, n int, d api.Deed, want []api.Entry, told ...int64) {
	t.Helper()
	after, tells, e := dict.Do(l, n, d)
	if !slices.Equal(after, want) || !slices.Equal(tells, told) || e != api.OK {
		t.Errorf("%v, size %d, of %+v: %v %v %v, want %v %v", l, n, d, after, tells, e, want, told)
	}
}

func wantNoDo(t *testing.T, l []api.Entry, n int, d api.Deed) {
	t.Helper()
	after, tells, e := dict.Do(l, n, d)
	if len(after) != 0 || len(tells) != 0 || e != api.ErrDictArg {
		t.Errorf("%v, size %d, of %+v: %v %v %v", l, n, d, after, tells, e)
	}
}

func wantNoCode(t *testing.T, base, n int, d api.Deed) {
	t.Helper()
	if l, e := dict.Code(base, n, d); len(l) != 0 || e != api.ErrDictArg {
		t.Errorf("base %d, size %d, of %+v: %v %v", base, n, d, l, e)
	}
}

func mustCode(t *testing.T, base, n int, d api.Deed) []api.Instr {
	t.Helper()
	l, e := dict.Code(base, n, d)
	if e != api.OK || len(l) == 0 {
		t.Fatalf("base %d, size %d, of %+v: %v %v", base, n, d, l, e)
	}
	return l
}
