package redo_test

import (
	"fmt"
	"math"
	"runtime"
	"slices"
	"testing"
	"time"

	"quash/api"
	"quash/redo"
)

type pair[K comparable, V any] struct {
	k K
	v V
}

func made[K comparable, V any](t *testing.T, most int, pairs ...pair[K, V]) *redo.Log[K, V] {
	t.Helper()
	l, e := redo.New[K, V](most)
	if e != api.OK || l == nil {
		t.Fatalf("New(%d): %v, %v", most, l, e)
	}
	for _, p := range pairs {
		if e := l.Put(p.k, p.v); e != api.OK {
			t.Fatalf("Put(%v, %v): %v", p.k, p.v, e)
		}
	}
	return l
}

type ab = pair[int, string]

// holds asks for all that can be seen of a log.
func holds[K, V comparable](t *testing.T, l *redo.Log[K, V], pairs ...pair[K, V]) {
	t.Helper()
	var keys []K
	for _, p := range pairs {
		keys = append(keys, p.k)
	}
	if got := l.Keys(); !slices.Equal(got, keys) {
		t.Errorf("Keys: %v, not %v", got, keys)
	}
	if l.Len() != len(pairs) {
		t.Errorf("Len: %d, not %d", l.Len(), len(pairs))
	}
	for i, p := range pairs {
		if k, v, e := l.At(i); k != p.k || v != p.v || e != api.OK {
			t.Errorf("At(%d): %v, %v, %v: not %v, %v", i, k, v, e, p.k, p.v)
		}
		if v, in := l.Get(p.k); v != p.v || !in {
			t.Errorf("Get(%v): %v, %v: not %v", p.k, v, in, p.v)
		}
	}
	for _, i := range []int{-1, len(pairs), len(pairs) + 1, math.MinInt, math.MaxInt} {
		noPlace(t, l, i)
	}
}

func noPlace[K, V comparable](t *testing.T, l *redo.Log[K, V], i int) {
	t.Helper()
	var none pair[K, V]
	if k, v, e := l.At(i); k != none.k || v != none.v || e != api.ErrPlace {
		t.Errorf("At(%d): %v, %v, %v", i, k, v, e)
	}
}

func lacks[K, V comparable](t *testing.T, l *redo.Log[K, V], keys ...K) {
	t.Helper()
	var none V
	for _, k := range keys {
		if v, in := l.Get(k); v != none || in {
			t.Errorf("Get(%v): %v, %v", k, v, in)
		}
	}
}

// P7.1

func TestNewTakesFromOneToTheMost(t *testing.T) {
	for _, most := range []int{1, 2, 7, api.MaxWrites, api.MaxRow - 1, api.MaxRow} {
		l := made[int, int](t, most)
		holds(t, l)
		lacks(t, l, 0, 1, -1)
	}
	for _, most := range []int{0, -1, api.MaxRow + 1, math.MinInt, math.MaxInt} {
		if l, e := redo.New[string, bool](most); l != nil || e != api.ErrArg {
			t.Errorf("New(%d): %v, %v", most, l, e)
		}
	}
}

func TestLenCountsKeysNotPuts(t *testing.T) {
	l := made[int, int](t, 3)
	for i, want := range []int{1, 2, 2, 3, 3} {
		l.Put([]int{4, 5, 4, 6, 7}[i], i)
		if l.Len() != want {
			t.Errorf("behind %d puts: Len %d, not %d", i+1, l.Len(), want)
		}
	}
}

func TestKeysAreToldApartByTheirValue(t *testing.T) {
	floats := made(t, 2, pair[float64, int]{0, 1}, pair[float64, int]{0.5, 2}, pair[float64, int]{math.Copysign(0, -1), 3})
	holds(t, floats, pair[float64, int]{0, 3}, pair[float64, int]{0.5, 2})

	type place struct {
		slot int
		name string
	}
	places := made(t, 3, pair[place, int]{place{1, "a"}, 1}, pair[place, int]{place{1, "b"}, 2}, pair[place, int]{place{1, "a"}, 3})
	holds(t, places, pair[place, int]{place{1, "a"}, 3}, pair[place, int]{place{1, "b"}, 2})

	arrays := made(t, 3, pair[[2]int, int]{[2]int{1, 2}, 1}, pair[[2]int, int]{[2]int{2, 1}, 2}, pair[[2]int, int]{[2]int{1, 2}, 3})
	holds(t, arrays, pair[[2]int, int]{[2]int{1, 2}, 3}, pair[[2]int, int]{[2]int{2, 1}, 2})

	a, b := 1, 1
	points := made(t, 3, pair[*int, int]{&a, 1}, pair[*int, int]{&b, 2}, pair[*int, int]{nil, 3})
	holds(t, points, pair[*int, int]{&a, 1}, pair[*int, int]{&b, 2}, pair[*int, int]{nil, 3})

	kinds := made(t, 4, pair[any, int]{1, 1}, pair[any, int]{int64(1), 2}, pair[any, int]{"1", 3}, pair[any, int]{nil, 4}, pair[any, int]{int64(1), 5})
	holds(t, kinds, pair[any, int]{1, 1}, pair[any, int]{int64(1), 5}, pair[any, int]{"1", 3}, pair[any, int]{nil, 4})

	one := made(t, 1, pair[struct{}, string]{struct{}{}, "a"}, pair[struct{}, string]{struct{}{}, "b"})
	holds(t, one, pair[struct{}, string]{struct{}{}, "b"})
}

// Nothing is promised of these keys but R1: no panic; the others are not to suffer by them.
func TestKeysThatAreNotTheSameAsThemselves(t *testing.T) {
	type both struct{ a, b any }
	nan := math.NaN()
	for _, odd := range []any{nan, []int{1}, map[int]int{}, func() {}, []int(nil), both{1, []int{2}}, both{nan, []int{2}}, [2]any{"a", []string{}}} {
		l := made(t, 3, pair[any, int]{"a", 1}, pair[any, int]{"b", 2}, pair[any, int]{"c", 3})
		for range 2 {
			l.Put(odd, 7)
			l.Get(odd)
			l.Drop(odd)
		}
		if v, in := l.Get("c"); v != 3 || !in || l.Put("a", 4) != api.OK {
			t.Errorf("beside %T: Get %v, %v", odd, v, in)
		}
		l.Clear()
		l.Put(odd, 7)
		l.Drop(odd)
		l.Get(odd)
		l.Keys()
		l.At(0)
		l.Clear()
		if l.Len() != 0 || l.Put("d", 5) != api.OK {
			t.Errorf("behind %T: Len %d", odd, l.Len())
		}
		holds(t, l, pair[any, int]{"d", 5})
	}
}

// P7.2

func TestPutTillItIsFull(t *testing.T) {
	for _, most := range []int{1, 2, 5, api.MaxRow} {
		l := made[int, int](t, most)
		var want []pair[int, int]
		for i := range most {
			p := pair[int, int]{(most - i) * 3, i * i}
			if e := l.Put(p.k, p.v); e != api.OK {
				t.Fatalf("most %d: Put %d: %v", most, i, e)
			}
			want = append(want, p)
		}
		for _, k := range []int{0, -1, 1} {
			if e := l.Put(k, 8); e != api.ErrFull {
				t.Errorf("most %d: Put beyond: %v", most, e)
			}
			lacks(t, l, k)
			holds(t, l, want...)
		}
		for i := range want {
			want[i].v = -i - 1
			if e := l.Put(want[i].k, want[i].v); e != api.OK {
				t.Errorf("most %d: Put anew of a full one: %v", most, e)
			}
		}
		holds(t, l, want...)
	}
}

func TestPutAnewKeepsThePlace(t *testing.T) {
	for i := range 3 {
		l := made(t, 4, ab{7, "a"}, ab{-2, "b"}, ab{5, "c"})
		want := []ab{{7, "a"}, {-2, "b"}, {5, "c"}}
		for _, v := range []string{"d", "", "e"} {
			want[i].v = v
			if e := l.Put(want[i].k, v); e != api.OK {
				t.Errorf("Put: %v", e)
			}
			holds(t, l, want...)
		}
		l.Put(6, "f")
		holds(t, l, append(want, ab{6, "f"})...)
	}
}

func TestGet(t *testing.T) {
	l := made(t, 4, ab{0, "a"}, ab{math.MinInt, ""}, ab{math.MaxInt, "c"})
	for range 2 {
		holds(t, l, ab{0, "a"}, ab{math.MinInt, ""}, ab{math.MaxInt, "c"})
		lacks(t, l, 1, -1, 2, math.MinInt+1, math.MaxInt-1)
	}
	if l.Len() != 3 || l.Put(4, "d") != api.OK || l.Put(5, "e") != api.ErrFull {
		t.Error("a Get of what is not there takes room")
	}
}

func TestTheZeroKeyIsAKey(t *testing.T) {
	l := made[int, int](t, 2)
	lacks(t, l, 0)
	l.Put(3, 1)
	lacks(t, l, 0)
	if l.Drop(0) {
		t.Error("Drop(0) of a log without it")
	}
	l.Put(0, 0)
	holds(t, l, pair[int, int]{3, 1}, pair[int, int]{0, 0})
	if !l.Drop(0) {
		t.Error("Drop(0)")
	}
	lacks(t, l, 0)
}

// P7.3

func TestAt(t *testing.T) {
	l := made(t, 9, ab{30, "a"}, ab{10, "b"}, ab{20, "c"})
	for _, i := range []int{-1, -3, 3, 4, 8, 9, math.MinInt, math.MaxInt} {
		noPlace(t, l, i)
	}
	holds(t, l, ab{30, "a"}, ab{10, "b"}, ab{20, "c"})
	l.Drop(20)
	noPlace(t, l, 2)
	l.Clear()
	noPlace(t, l, 0)
	noPlace(t, made[int, string](t, 1), 0)
}

func TestKeysAreNewMemory(t *testing.T) { // R3
	l := made(t, 8, ab{1, "a"}, ab{2, "b"}, ab{3, "c"})
	a, b := l.Keys(), l.Keys()
	a[0] = 100
	for i := range a[:cap(a)] {
		a[:cap(a)][i] = 99
	}
	if !slices.Equal(b, []int{1, 2, 3}) {
		t.Errorf("another list: %v", b)
	}
	_ = append(b, 4, 5, 6, 7, 8)
	holds(t, l, ab{1, "a"}, ab{2, "b"}, ab{3, "c"})
	l.Put(4, "d")
	c := l.Keys()
	l.Drop(1)
	l.Put(5, "e")
	l.Clear()
	l.Put(6, "f")
	if !slices.Equal(c, []int{1, 2, 3, 4}) {
		t.Errorf("an older list: %v", c)
	}
	if none := made[int, int](t, 4).Keys(); len(none) != 0 {
		t.Errorf("Keys of nothing: %v", none)
	}
}

func TestKeysInTheOrderInWhichTheyCame(t *testing.T) { // not a map's, nor that of their values
	for _, keys := range [][]string{{"c", "a", "b"}, {"", "z", "y", "x"}, {"b"}} {
		l := made[string, int](t, 5)
		for i, k := range keys {
			l.Put(k, i)
		}
		for range 20 {
			if got := l.Keys(); !slices.Equal(got, keys) {
				t.Fatalf("Keys: %q, not %q", got, keys)
			}
		}
	}
}

// P7.4

func TestDropAtEachPlace(t *testing.T) {
	all := []ab{{4, "a"}, {3, "b"}, {9, "c"}, {1, "d"}}
	for i, p := range all {
		l := made(t, 4, all...)
		left := slices.Delete(slices.Clone(all), i, i+1)
		if !l.Drop(p.k) {
			t.Errorf("Drop(%d): false", p.k)
		}
		for range 2 {
			holds(t, l, left...)
			lacks(t, l, p.k)
			if l.Drop(p.k) || l.Drop(0) || l.Drop(-1) {
				t.Errorf("Drop of what is gone or never was, behind Drop(%d)", p.k)
			}
		}
		for j := range left {
			left[j].v += "!"
			l.Put(left[j].k, left[j].v)
		}
		holds(t, l, left...)
		if l.Put(8, "e") != api.OK || l.Put(7, "f") != api.ErrFull {
			t.Error("the room of what was dropped")
		}
		holds(t, l, append(left, ab{8, "e"})...)
	}
}

func TestDropAllInEachOrder(t *testing.T) {
	all := []ab{{4, "a"}, {3, "b"}, {9, "c"}, {1, "d"}}
	for n := range 256 {
		l, left := made(t, 4, all...), slices.Clone(all)
		for m := n; len(left) > 0; m /= 4 {
			i := m % 4 % len(left)
			if !l.Drop(left[i].k) {
				t.Fatalf("order %d: Drop(%d): false", n, left[i].k)
			}
			left = slices.Delete(left, i, i+1)
			holds(t, l, left...)
		}
		lacks(t, l, 4, 3, 9, 1)
	}
}

func TestDropOfNothing(t *testing.T) {
	l := made[string, int](t, 2)
	if l.Drop("") || l.Drop("a") {
		t.Error("Drop of nothing: true")
	}
	holds(t, l)
}

func TestDropOfAGreatOne(t *testing.T) {
	l := made[int, int](t, api.MaxRow)
	var want []pair[int, int]
	for i := range api.MaxRow {
		l.Put(i, -i)
		if i%3 == 1 {
			want = append(want, pair[int, int]{i, -i})
		}
	}
	for i := range api.MaxRow {
		if i%3 != 1 && !l.Drop(i) {
			t.Errorf("Drop(%d): false", i)
		}
	}
	holds(t, l, want...)
}

func TestClear(t *testing.T) {
	l := made(t, 2, ab{4, "a"}, ab{5, "b"})
	for range 2 {
		l.Clear()
		holds(t, l)
		lacks(t, l, 4, 5, 0)
		if l.Drop(4) || l.Drop(5) {
			t.Error("Drop behind Clear")
		}
	}
	if l.Put(5, "c") != api.OK || l.Put(6, "d") != api.OK || l.Put(4, "e") != api.ErrFull {
		t.Error("Put behind Clear")
	}
	holds(t, l, ab{5, "c"}, ab{6, "d"})
	lacks(t, l, 4)
}

// P7.5

func TestAKeyThatComesAgainStandsLast(t *testing.T) {
	all := []ab{{4, "a"}, {3, "b"}, {9, "c"}}
	for i, p := range all {
		l := made(t, 3, all...)
		l.Drop(p.k)
		if e := l.Put(p.k, "again"); e != api.OK {
			t.Errorf("Put(%d) again: %v", p.k, e)
		}
		holds(t, l, append(slices.Delete(slices.Clone(all), i, i+1), ab{p.k, "again"})...)
	}
	l := made(t, 3, all...)
	l.Clear()
	l.Put(9, "d")
	l.Put(4, "e")
	holds(t, l, ab{9, "d"}, ab{4, "e"})
}

// plain is a log by its promises' words.
type plain struct {
	most  int
	pairs []ab
}

func (p *plain) find(k int) int {
	return slices.IndexFunc(p.pairs, func(x ab) bool { return x.k == k })
}

func (p *plain) put(k int, v string) api.Errno {
	i := p.find(k)
	switch {
	case i >= 0:
		p.pairs[i].v = v
	case len(p.pairs) == p.most:
		return api.ErrFull
	default:
		p.pairs = append(p.pairs, ab{k, v})
	}
	return api.OK
}

func (p *plain) drop(k int) bool {
	i := p.find(k)
	if i < 0 {
		return false
	}
	p.pairs = slices.Delete(p.pairs, i, i+1)
	return true
}

// play does a deed to both: 0 to 2 puts a key, 3 to 5 drops it, 6 clears.
func play(t *testing.T, l *redo.Log[int, string], p *plain, deed int, v string) {
	t.Helper()
	switch k := deed % 3; {
	case deed == 6:
		l.Clear()
		p.pairs = nil
	case deed >= 3:
		if got, want := l.Drop(k), p.drop(k); got != want {
			t.Errorf("Drop(%d): %v", k, got)
		}
	default:
		if got, want := l.Put(k, v), p.put(k, v); got != want {
			t.Errorf("Put(%d, %s): %v, not %v", k, v, got, want)
		}
	}
	holds(t, l, p.pairs...)
	for k := -1; k <= 3; k++ {
		if p.find(k) < 0 {
			lacks(t, l, k)
		}
	}
}

func TestAllOrdersOfFiveDeeds(t *testing.T) {
	const kinds, deeds = 7, 5
	all := 1
	for range deeds {
		all *= kinds
	}
	for most := 1; most <= 3; most++ {
		for n := range all {
			l, p := made[int, string](t, most), &plain{most: most}
			for i, m := 0, n; i < deeds; i, m = i+1, m/kinds {
				play(t, l, p, m%kinds, fmt.Sprint("v", i))
			}
			if t.Failed() {
				t.Fatalf("most %d, deeds %d", most, n)
			}
		}
	}
}

func TestManyDeedsAgainstAList(t *testing.T) {
	const most = 12
	l, p := made[int, string](t, most), &plain{most: most}
	for i, n := 0, uint32(7); i < 20000 && !t.Failed(); i++ {
		n = n*1664525 + 1013904223
		k, v := int(n>>16%17)-3, fmt.Sprint(i)
		switch n >> 28 {
		case 0, 1, 2, 3, 4, 5:
			if got, want := l.Drop(k), p.drop(k); got != want {
				t.Errorf("%d: Drop(%d): %v", i, k, got)
			}
		case 6:
			if i%11 == 0 {
				l.Clear()
				p.pairs = nil
			}
		default:
			if got, want := l.Put(k, v), p.put(k, v); got != want {
				t.Errorf("%d: Put(%d): %v, not %v", i, k, got, want)
			}
		}
		holds(t, l, p.pairs...)
		for k := -4; k <= 15; k++ {
			if p.find(k) < 0 {
				lacks(t, l, k)
			}
		}
	}
}

// What holds everywhere

func TestValuesOfManyKinds(t *testing.T) {
	arrays := made(t, 2, pair[int, [2]int]{1, [2]int{3, 4}})
	a, _ := arrays.Get(1)
	a[0] = 9
	_, b, _ := arrays.At(0)
	b[1] = 9
	holds(t, arrays, pair[int, [2]int]{1, [2]int{3, 4}})

	lists := made(t, 2, pair[string, []int]{"a", []int{1}}, pair[string, []int]{"b", nil})
	if v, in := lists.Get("b"); v != nil || !in {
		t.Errorf("Get: %v, %v", v, in)
	}
	if v, in := lists.Get("c"); v != nil || in {
		t.Errorf("Get: %v, %v", v, in)
	}
	if k, v, e := lists.At(2); k != "" || v != nil || e != api.ErrPlace {
		t.Errorf("At(2): %q, %v, %v", k, v, e)
	}
	fs := made(t, 1, pair[int, func() int]{1, func() int { return 3 }})
	if f, in := fs.Get(1); !in || f() != 3 {
		t.Error("a function")
	}
	holds(t, made(t, 2, pair[bool, error]{true, api.ErrFull}, pair[bool, error]{false, nil}), pair[bool, error]{true, api.ErrFull}, pair[bool, error]{false, nil})
}

func TestLogsDoNotDisturbOneAnother(t *testing.T) { // R4
	a, b := made(t, 3, ab{1, "a"}, ab{2, "b"}), made(t, 2, ab{1, "c"})
	a.Drop(1)
	b.Put(2, "d")
	holds(t, a, ab{2, "b"})
	holds(t, b, ab{1, "c"}, ab{2, "d"})
	a.Clear()
	if a.Put(5, "e") != api.OK || b.Put(5, "f") != api.ErrFull {
		t.Error("Put")
	}
	holds(t, a, ab{5, "e"})
	holds(t, b, ab{1, "c"}, ab{2, "d"})
}

func TestWhatIsGoneIsNotKept(t *testing.T) {
	type thing = *[64]int
	take := map[string]func(*redo.Log[thing, thing], thing){
		"Drop":  func(l *redo.Log[thing, thing], k thing) { l.Drop(k) },
		"Clear": func(l *redo.Log[thing, thing], _ thing) { l.Clear() },
	}
	for name, f := range take {
		l := made(t, 3, pair[thing, thing]{new([64]int), new([64]int)}, pair[thing, thing]{new([64]int), nil})
		freed := make(chan bool, 2)
		k, v, _ := l.At(0)
		runtime.AddCleanup(k, func(int) { freed <- true }, 0)
		runtime.AddCleanup(v, func(int) { freed <- true }, 0)
		f(l, k)
		gone := 0
		for i := 0; i < 300 && gone < 2; i++ {
			runtime.GC()
			select {
			case <-freed:
				gone++
			case <-time.After(10 * time.Millisecond):
			}
		}
		if gone < 2 {
			t.Errorf("%s keeps what is gone", name)
		}
		runtime.KeepAlive(l)
	}
}

func TestExamplesOfTheChapter(t *testing.T) {
	l := made(t, 2, ab{5, "a"}, ab{3, "b"}, ab{5, "c"})
	if e := l.Put(9, "d"); e != api.ErrFull {
		t.Errorf("Put(9): %v", e)
	}
	holds(t, l, ab{5, "c"}, ab{3, "b"})
	lacks(t, l, 9)
	noPlace(t, l, 2)

	if !l.Drop(5) || l.Drop(5) {
		t.Error("Drop(5)")
	}
	holds(t, l, ab{3, "b"})
	if e := l.Put(5, "e"); e != api.OK {
		t.Errorf("Put(5): %v", e)
	}
	holds(t, l, ab{3, "b"}, ab{5, "e"})
	l.Clear()
	holds(t, l)
	for _, most := range []int{0, 4097} {
		if n, e := redo.New[int, string](most); n != nil || e != api.ErrArg {
			t.Errorf("New(%d): %v, %v", most, n, e)
		}
	}
}
