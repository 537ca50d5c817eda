package stack_test

import (
	"math"
	"runtime"
	"slices"
	"testing"
	"time"

	"quash/api"
	"quash/stack"
)

func made[T any](t *testing.T, most int, things ...T) *stack.Stack[T] {
	t.Helper()
	s, e := stack.New[T](most)
	if e != api.OK || s == nil {
		t.Fatalf("New(%d): %v, %v", most, s, e)
	}
	for _, x := range things {
		if e := s.Push(x); e != api.OK {
			t.Fatalf("Push(%v): %v", x, e)
		}
	}
	return s
}

// holds asks for all that can be seen of a stack.
func holds[T comparable](t *testing.T, s *stack.Stack[T], most int, things ...T) {
	t.Helper()
	if got := s.All(); !slices.Equal(got, things) {
		t.Errorf("All: %v, not %v", got, things)
	}
	if s.Len() != len(things) || s.Room() != most-len(things) {
		t.Errorf("Len %d, Room %d: not %d and %d", s.Len(), s.Room(), len(things), most-len(things))
	}
	for k := range things {
		if x, e := s.Peek(k); e != api.OK || x != things[len(things)-1-k] {
			t.Errorf("Peek(%d): %v, %v", k, x, e)
		}
	}
}

func TestNewTakesFromOneToTheMost(t *testing.T) { // P3.1
	for _, most := range []int{1, 2, 7, api.MaxStack - 1, api.MaxStack} {
		holds(t, made[int](t, most), most)
	}
	for _, most := range []int{0, -1, api.MaxStack + 1, math.MinInt, math.MaxInt} {
		if s, e := stack.New[string](most); s != nil || e != api.ErrArg {
			t.Errorf("New(%d): %v, %v", most, s, e)
		}
	}
}

func TestLenAndRoomFollow(t *testing.T) { // P3.1
	s := made(t, 3, "a", "b")
	holds(t, s, 3, "a", "b")
	s.Pop()
	holds(t, s, 3, "a")
	s.Push("c")
	s.Push("d")
	holds(t, s, 3, "a", "c", "d")
}

func TestPushTillItIsFull(t *testing.T) { // P3.2
	for _, most := range []int{1, 2, 5, api.MaxStack} {
		s := made[int](t, most)
		var want []int
		for i := range most {
			if e := s.Push(i * i); e != api.OK {
				t.Fatalf("most %d: Push %d: %v", most, i, e)
			}
			want = append(want, i*i)
		}
		for range 2 {
			if e := s.Push(-1); e != api.ErrFull {
				t.Errorf("most %d: Push beyond: %v", most, e)
			}
			holds(t, s, most, want...)
		}
		s.Pop()
		if e := s.Push(-2); e != api.OK {
			t.Errorf("most %d: Push behind Pop: %v", most, e)
		}
		holds(t, s, most, append(want[:most-1], -2)...)
	}
}

func TestPopTillItIsEmpty(t *testing.T) { // P3.2
	s := made(t, 4, "a", "b", "c")
	for _, want := range []string{"c", "b", "a"} {
		if x, e := s.Pop(); x != want || e != api.OK {
			t.Errorf("Pop: %q, %v: not %q", x, e, want)
		}
	}
	for range 2 {
		if x, e := s.Pop(); x != "" || e != api.ErrEmpty {
			t.Errorf("Pop of nothing: %q, %v", x, e)
		}
		holds(t, s, 4)
	}
	s.Push("d")
	holds(t, s, 4, "d")
}

func TestPeek(t *testing.T) { // P3.3
	s := made(t, 5, 10, 20, 30)
	for k, want := range []int{30, 20, 10} {
		for range 2 {
			if x, e := s.Peek(k); x != want || e != api.OK {
				t.Errorf("Peek(%d): %d, %v", k, x, e)
			}
		}
	}
	for _, k := range []int{-1, 3, 4, 5, math.MinInt, math.MaxInt} {
		if x, e := s.Peek(k); x != 0 || e != api.ErrPlace {
			t.Errorf("Peek(%d): %d, %v", k, x, e)
		}
	}
	holds(t, s, 5, 10, 20, 30)
	if x, e := made[int](t, 2).Peek(0); x != 0 || e != api.ErrPlace {
		t.Errorf("Peek(0) of nothing: %d, %v", x, e)
	}
}

func TestWhatIsGoneIsNotPeeked(t *testing.T) { // P3.2, P3.3
	s := made(t, 4, 1, 2, 3, 4)
	s.Pop()
	s.Cut(1)
	if x, e := s.Peek(-1); x != 0 || e != api.ErrPlace {
		t.Errorf("Peek(-1): %d, %v", x, e)
	}
	if x, e := s.Peek(2); x != 0 || e != api.ErrPlace {
		t.Errorf("Peek(2): %d, %v", x, e)
	}
	s.Clear()
	if x, e := s.Peek(0); x != 0 || e != api.ErrPlace {
		t.Errorf("Peek(0): %d, %v", x, e)
	}
}

func TestSwap(t *testing.T) { // P3.3
	s := made(t, 3, 1, 2, 3)
	for _, want := range [][]int{{1, 3, 2}, {1, 2, 3}} {
		if e := s.Swap(); e != api.OK {
			t.Errorf("Swap: %v", e)
		}
		holds(t, s, 3, want...)
	}
	two := made(t, 2, 8, 9)
	if e := two.Swap(); e != api.OK {
		t.Errorf("Swap of two: %v", e)
	}
	holds(t, two, 2, 9, 8)
	one := made(t, 3, 8)
	if e := one.Swap(); e != api.ErrEmpty {
		t.Errorf("Swap of one: %v", e)
	}
	holds(t, one, 3, 8)
	none := made[int](t, 3)
	if e := none.Swap(); e != api.ErrEmpty {
		t.Errorf("Swap of none: %v", e)
	}
	holds(t, none, 3)
}

func TestCut(t *testing.T) { // P3.3
	all := []int{4, 5, 6}
	for n := range 4 {
		s := made(t, 3, all...)
		if e := s.Cut(n); e != api.OK {
			t.Errorf("Cut(%d): %v", n, e)
		}
		holds(t, s, 3, all[:3-n]...)
		if n > 0 {
			s.Push(7)
			holds(t, s, 3, append(slices.Clone(all[:3-n]), 7)...)
		}
	}
	s := made(t, 9, all...)
	for n, want := range map[int]api.Errno{
		-1: api.ErrArg, math.MinInt: api.ErrArg,
		4: api.ErrEmpty, 9: api.ErrEmpty, math.MaxInt: api.ErrEmpty,
	} {
		if e := s.Cut(n); e != want {
			t.Errorf("Cut(%d): %v, not %v", n, e, want)
		}
		holds(t, s, 9, all...)
	}
	none := made[int](t, 2)
	if none.Cut(0) != api.OK || none.Cut(1) != api.ErrEmpty || none.Cut(-1) != api.ErrArg {
		t.Error("Cut of nothing")
	}
}

func TestClear(t *testing.T) { // P3.3
	s := made(t, 2, 4, 5)
	for range 2 {
		s.Clear()
		holds(t, s, 2)
	}
	if s.Push(6) != api.OK || s.Push(7) != api.OK || s.Push(8) != api.ErrFull {
		t.Error("Push behind Clear")
	}
	holds(t, s, 2, 6, 7)
}

func TestAllIsNewMemory(t *testing.T) { // P3.4, R3
	s := made(t, 8, 1, 2, 3)
	a, b := s.All(), s.All()
	a[0] = 100
	_ = append(a[:1], 101, 102, 103, 104)
	for i := range a[:cap(a)] {
		a[:cap(a)][i] = 99
	}
	if !slices.Equal(b, []int{1, 2, 3}) {
		t.Errorf("another list: %v", b)
	}
	s.Push(4)
	holds(t, s, 8, 1, 2, 3, 4)
	c := s.All()
	s.Pop()
	s.Push(5)
	s.Swap()
	if !slices.Equal(c, []int{1, 2, 3, 4}) {
		t.Errorf("an older list: %v", c)
	}
	if none := made[int](t, 4).All(); len(none) != 0 {
		t.Errorf("All of nothing: %v", none)
	}
}

func TestCopyStandsAlone(t *testing.T) { // P3.4
	change := map[string]func(*stack.Stack[int]){
		"Push":  func(s *stack.Stack[int]) { s.Push(50) },
		"Pop":   func(s *stack.Stack[int]) { s.Pop(); s.Push(51) },
		"Swap":  func(s *stack.Stack[int]) { s.Swap() },
		"Cut":   func(s *stack.Stack[int]) { s.Cut(2); s.Push(52); s.Push(53) },
		"Clear": func(s *stack.Stack[int]) { s.Clear(); s.Push(54) },
	}
	for name, f := range change {
		s := made(t, 4, 1, 2, 3)
		c := s.Copy()
		holds(t, c, 4, 1, 2, 3)
		f(s)
		holds(t, c, 4, 1, 2, 3)
		s = made(t, 4, 1, 2, 3)
		c = s.Copy()
		f(c)
		holds(t, s, 4, 1, 2, 3)
		if slices.Equal(c.All(), s.All()) {
			t.Errorf("%s left the copy as it was", name)
		}
	}
}

func TestCopiesPushApart(t *testing.T) { // P3.4: the spare room is not shared
	s := made(t, 8, 1, 2, 3, 4, 5)
	s.Cut(2)
	c := s.Copy()
	s.Push(6)
	c.Push(7)
	holds(t, s, 8, 1, 2, 3, 6)
	holds(t, c, 8, 1, 2, 3, 7)
	d := c.Copy()
	d.Push(8)
	c.Push(9)
	holds(t, c, 8, 1, 2, 3, 7, 9)
	holds(t, d, 8, 1, 2, 3, 7, 8)
}

func TestCopyHasTheSameMost(t *testing.T) { // P3.4
	c := made(t, 2, "a").Copy()
	if c.Push("b") != api.OK || c.Push("c") != api.ErrFull {
		t.Error("most of a copy")
	}
	holds(t, c, 2, "a", "b")
	holds(t, made[string](t, 3).Copy(), 3)
}

func TestThingsOfManyKinds(t *testing.T) { // P3.4: copied as = copies them
	arrays := made(t, 2, [2]int{1, 2})
	a, _ := arrays.Peek(0)
	a[0] = 9
	holds(t, arrays, 2, [2]int{1, 2})

	x := 1
	points := made(t, 2, &x)
	p, _ := points.Copy().Pop()
	*p = 2
	if q, _ := points.Peek(0); q != &x || x != 2 {
		t.Error("a pointer's copy points elsewhere")
	}

	lists := made(t, 2, []int{1}, nil)
	if l, e := lists.Pop(); l != nil || e != api.OK {
		t.Errorf("Pop: %v, %v", l, e)
	}
	lists.All()[0][0] = 5
	if l, e := lists.Pop(); !slices.Equal(l, []int{5}) || e != api.OK {
		t.Errorf("Pop: %v, %v", l, e)
	}
	if l, e := lists.Pop(); l != nil || e != api.ErrEmpty {
		t.Errorf("Pop: %v, %v", l, e)
	}

	holds(t, made(t, 3, struct{}{}, struct{}{}), 3, struct{}{}, struct{}{})
	holds(t, made[any](t, 3, 1, "a"), 3, 1, "a")
	f, _ := made(t, 1, func() int { return 3 }).Pop()
	if f() != 3 {
		t.Error("a function")
	}
}

func TestStacksDoNotDisturbOneAnother(t *testing.T) { // R4
	a, b := made(t, 3, 1), made(t, 3, 2)
	a.Push(3)
	b.Push(4)
	a.Swap()
	holds(t, a, 3, 3, 1)
	holds(t, b, 3, 2, 4)
}

func TestWhatIsGoneIsNotKept(t *testing.T) {
	take := map[string]func(*stack.Stack[*[64]int]){
		"Pop":   func(s *stack.Stack[*[64]int]) { s.Pop() },
		"Cut":   func(s *stack.Stack[*[64]int]) { s.Cut(1) },
		"Clear": func(s *stack.Stack[*[64]int]) { s.Clear() },
	}
	for name, f := range take {
		s := made(t, 2, new([64]int))
		freed := make(chan bool, 1)
		top, _ := s.Peek(0)
		runtime.AddCleanup(top, func(int) { freed <- true }, 0)
		f(s)
		gone := false
		for i := 0; i < 300 && !gone; i++ {
			runtime.GC()
			select {
			case gone = <-freed:
			case <-time.After(10 * time.Millisecond):
			}
		}
		if !gone {
			t.Errorf("%s keeps what is gone", name)
		}
		runtime.KeepAlive(s)
	}
}

func TestAgainstAList(t *testing.T) { // P3.1 to P3.4 one behind the other
	const most = 6
	s, list := made[int](t, most), []int{}
	for i, n := 0, uint32(7); i < 3000; i++ {
		n = n*1664525 + 1013904223
		k := int(n >> 20 % 8)
		switch n >> 28 % 6 {
		case 0, 1:
			if e := s.Push(i); (e == api.OK) != (len(list) < most) {
				t.Fatalf("%d: Push: %v", i, e)
			} else if e == api.OK {
				list = append(list, i)
			}
		case 2:
			x, e := s.Pop()
			if (e == api.OK) != (len(list) > 0) || e == api.OK && x != list[len(list)-1] {
				t.Fatalf("%d: Pop: %d, %v", i, x, e)
			}
			list = list[:max(0, len(list)-1)]
		case 3:
			e := s.Swap()
			if (e == api.OK) != (len(list) > 1) {
				t.Fatalf("%d: Swap: %v", i, e)
			} else if e == api.OK {
				slices.Reverse(list[len(list)-2:])
			}
		case 4:
			e := s.Cut(k)
			if (e == api.OK) != (k <= len(list)) {
				t.Fatalf("%d: Cut(%d): %v", i, k, e)
			} else if e == api.OK {
				list = list[:len(list)-k]
			}
		case 5:
			s = s.Copy()
		}
		holds(t, s, most, list...)
	}
}

func TestExamplesOfTheChapter(t *testing.T) {
	s := made(t, 2, 5, 6)
	if e := s.Push(7); e != api.ErrFull {
		t.Errorf("Push(7): %v", e)
	}
	holds(t, s, 2, 5, 6)
	if x, e := s.Peek(2); x != 0 || e != api.ErrPlace {
		t.Errorf("Peek(2): %d, %v", x, e)
	}
	s.Swap()
	for _, want := range []int{5, 6} {
		if x, e := s.Pop(); x != want || e != api.OK {
			t.Errorf("Pop: %d, %v", x, e)
		}
	}
	if x, e := s.Pop(); x != 0 || e != api.ErrEmpty {
		t.Errorf("Pop: %d, %v", x, e)
	}

	three := made(t, 3, "a", "b", "c")
	for _, c := range []struct {
		n   int
		e   api.Errno
		len int
	}{{2, api.OK, 1}, {2, api.ErrEmpty, 1}, {-1, api.ErrArg, 1}, {0, api.OK, 1}} {
		if e := three.Cut(c.n); e != c.e || three.Len() != c.len {
			t.Errorf("Cut(%d): %v, Len %d", c.n, e, three.Len())
		}
	}
	if e := three.Swap(); e != api.ErrEmpty {
		t.Errorf("Swap of one: %v", e)
	}
}
