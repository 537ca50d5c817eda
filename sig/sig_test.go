package sig_test

import (
	"slices"
	"testing"

	"quash/api"
	"quash/sig"
)

const (
	leastInt    = -1 << 63
	greatestInt = 1<<63 - 1
)

func wrongWidths() []int { return []int{0, -1, leastInt, api.MaxBits + 1, greatestInt} }

func wrongCells() []int { return []int{-1, leastInt, api.MaxCells, api.MaxCells + 1, greatestInt} }

// somePairs are signatures of both words' edges and of the middle, each with each.
func somePairs() [][2]api.Sig {
	words := []uint64{0, 1, 2, 3, 1 << 31, 1 << 32, 1 << 63, 1<<63 | 1, 0x5555555555555555, 1<<64 - 1}
	var all []api.Sig
	for _, a := range words {
		for _, b := range words {
			all = append(all, api.Sig{a, b})
		}
	}
	var pairs [][2]api.Sig
	for _, a := range all {
		for _, b := range all {
			pairs = append(pairs, [2]api.Sig{a, b})
		}
	}
	return pairs
}

// has reads a bit off a signature by the words of the chapter alone.
func has(s api.Sig, bit int) bool {
	value := uint64(1)
	for range bit % 64 {
		value *= 2
	}
	return s[bit/64]/value%2 == 1
}

// of is Of for what is not refused.
func of(t *testing.T, bits int, cells ...int) api.Sig {
	t.Helper()
	s, e := sig.Of(cells, bits)
	if e != api.OK {
		t.Fatal(cells, bits, e)
	}
	return s
}

// P2.1

func TestHashOfEveryCellAndWidth(t *testing.T) {
	for bits := 1; bits <= api.MaxBits; bits++ {
		for cell := range api.MaxCells {
			c := cell + 1
			wantFirst, wantSecond := ((c*40503)%65536)*bits/65536, ((c*30011)%65536)*bits/65536
			first, second, e := sig.Hash(cell, bits)
			if first != wantFirst || second != wantSecond || e != api.OK {
				t.Fatal(cell, bits, first, second, e)
			}
			if first < 0 || first >= bits || second < 0 || second >= bits {
				t.Fatal(cell, bits, first, second)
			}
		}
	}
}

func TestHashByHand(t *testing.T) {
	for _, c := range []struct{ cell, bits, first, second int }{
		{0, 128, 79, 58},
		{1, 128, 30, 117},
		{0, 1, 0, 0},
		{1, 1, 0, 0},
		{0, 64, 39, 29},
		{0, 2, 1, 0},
		{2, 128, 109, 47},
		{255, 128, 27, 29},
		{255, 1, 0, 0},
	} {
		first, second, e := sig.Hash(c.cell, c.bits)
		if first != c.first || second != c.second || e != api.OK {
			t.Error(c, first, second, e)
		}
	}
}

func TestHashRefuses(t *testing.T) {
	refused := func(cell, bits int, want api.Errno) {
		t.Helper()
		if first, second, e := sig.Hash(cell, bits); first != 0 || second != 0 || e != want {
			t.Error(cell, bits, first, second, e)
		}
	}
	for _, bits := range wrongWidths() {
		refused(0, bits, api.ErrArg)
		refused(api.MaxCells-1, bits, api.ErrArg)
		for _, cell := range wrongCells() {
			refused(cell, bits, api.ErrArg)
		}
	}
	for _, cell := range wrongCells() {
		for _, bits := range []int{1, 8, api.MaxBits} {
			refused(cell, bits, api.ErrPlace)
		}
	}
}

// P2.2

func TestOfHasBothBitsOfEachCellAndNoOthers(t *testing.T) {
	for _, bits := range []int{1, 2, 7, 63, 64, 65, 127, 128} {
		for cell := range api.MaxCells {
			cells := []int{cell, (cell * 7) % api.MaxCells, (cell + 100) % api.MaxCells}
			s := of(t, bits, cells...)
			var want [api.MaxBits]bool
			for _, c := range cells {
				first, second, _ := sig.Hash(c, bits)
				want[first], want[second] = true, true
			}
			for b := range api.MaxBits {
				if has(s, b) != want[b] {
					t.Fatal(bits, cells, b, s)
				}
			}
		}
	}
}

func TestOfNoCells(t *testing.T) {
	for _, cells := range [][]int{nil, {}} {
		for _, bits := range []int{1, api.MaxBits} {
			if s, e := sig.Of(cells, bits); s != (api.Sig{}) || e != api.OK {
				t.Error(cells, bits, s, e)
			}
		}
		for _, bits := range wrongWidths() {
			if s, e := sig.Of(cells, bits); s != (api.Sig{}) || e != api.ErrArg {
				t.Error(cells, bits, s, e)
			}
		}
	}
}

func TestOfCellsThatStandThereOften(t *testing.T) {
	once := of(t, 128, 3, 200)
	if s := of(t, 128, 200, 3, 3, 200, 3); s != once {
		t.Error(s, once)
	}
	long := slices.Repeat([]int{200, 3}, 5000)
	if s := of(t, 128, long...); s != once {
		t.Error(s, once)
	}
}

func TestOfAllCells(t *testing.T) {
	var all []int
	for cell := range api.MaxCells {
		all = append(all, cell)
	}
	if s := of(t, 1, all...); s != (api.Sig{1, 0}) {
		t.Error(s)
	}
	if s := of(t, 64, all...); s[1] != 0 {
		t.Error(s)
	}
	if s := of(t, 128, all...); s != (api.Sig{1<<64 - 1, 1<<64 - 1}) {
		t.Error(s)
	}
}

func TestOfRefuses(t *testing.T) {
	for _, cell := range wrongCells() {
		for _, cells := range [][]int{{cell}, {0, cell}, {cell, 0}, {1, cell, 2}, {cell, cell}} {
			if s, e := sig.Of(cells, 8); s != (api.Sig{}) || e != api.ErrPlace {
				t.Error(cells, s, e)
			}
			for _, bits := range wrongWidths() {
				if s, e := sig.Of(cells, bits); s != (api.Sig{}) || e != api.ErrArg {
					t.Error(cells, bits, s, e)
				}
			}
		}
	}
	for _, bits := range wrongWidths() {
		if s, e := sig.Of([]int{0, 255}, bits); s != (api.Sig{}) || e != api.ErrArg {
			t.Error(bits, s, e)
		}
	}
}

// P2.3

func TestJoinMeetAndMinusBitByBit(t *testing.T) {
	for _, p := range somePairs() {
		a, b := p[0], p[1]
		join, meet, minus := sig.Join(a, b), sig.Meet(a, b), sig.Minus(a, b)
		for bit := range api.MaxBits {
			inA, inB := has(a, bit), has(b, bit)
			if has(join, bit) != (inA || inB) || has(meet, bit) != (inA && inB) || has(minus, bit) != (inA && !inB) {
				t.Fatal(a, b, bit, join, meet, minus)
			}
		}
		if [2]api.Sig{a, b} != p {
			t.Fatal("what was handed in has changed", p)
		}
	}
}

func TestMeetsAndWithinBitByBit(t *testing.T) {
	for _, p := range somePairs() {
		a, b := p[0], p[1]
		meets, within := false, true
		for bit := range api.MaxBits {
			inA, inB := has(a, bit), has(b, bit)
			meets = meets || inA && inB
			within = within && (!inA || inB)
		}
		if sig.Meets(a, b) != meets || sig.Within(a, b) != within {
			t.Fatal(a, b, sig.Meets(a, b), sig.Within(a, b))
		}
	}
}

func TestMeetsAndWithinOfNoBits(t *testing.T) {
	none, all := api.Sig{}, api.Sig{1<<64 - 1, 1<<64 - 1}
	if sig.Meets(none, none) || sig.Meets(none, all) || sig.Meets(all, none) || !sig.Meets(all, all) {
		t.Error("Meets")
	}
	if !sig.Within(none, none) || !sig.Within(none, all) || sig.Within(all, none) || !sig.Within(all, all) {
		t.Error("Within")
	}
}

// A bit of one word is not that of the other one.
func TestWordsAreKeptApart(t *testing.T) {
	low, high := api.Sig{1 << 5, 0}, api.Sig{0, 1 << 5}
	if sig.Meets(low, high) || sig.Within(low, high) || sig.Within(high, low) {
		t.Error("bits of two words meet")
	}
	if sig.Join(low, high) != (api.Sig{1 << 5, 1 << 5}) || sig.Minus(low, high) != low || sig.Meet(low, high) != (api.Sig{}) {
		t.Error(sig.Join(low, high), sig.Minus(low, high), sig.Meet(low, high))
	}
}

func TestCountAndBits(t *testing.T) {
	for _, p := range somePairs()[:100] {
		for _, s := range p {
			var want []int
			for bit := range api.MaxBits {
				if has(s, bit) {
					want = append(want, bit)
				}
			}
			if got := sig.Bits(s); !slices.Equal(got, want) || sig.Count(s) != len(want) {
				t.Fatal(s, got, sig.Count(s))
			}
		}
	}
}

func TestCountAndBitsByHand(t *testing.T) {
	for _, c := range []struct {
		s    api.Sig
		bits []int
	}{
		{api.Sig{}, nil},
		{api.Sig{1, 0}, []int{0}},
		{api.Sig{1 << 63, 0}, []int{63}},
		{api.Sig{0, 1}, []int{64}},
		{api.Sig{0, 1 << 63}, []int{127}},
		{api.Sig{1<<63 | 1<<4, 1<<63 | 1}, []int{4, 63, 64, 127}},
	} {
		if got := sig.Bits(c.s); !slices.Equal(got, c.bits) || sig.Count(c.s) != len(c.bits) {
			t.Error(c.s, got, sig.Count(c.s))
		}
	}
	if n := sig.Count(api.Sig{1<<64 - 1, 1<<64 - 1}); n != api.MaxBits {
		t.Error(n)
	}
}

// P2.4

func TestFrom(t *testing.T) {
	for _, c := range []struct {
		bits []int
		want api.Sig
	}{
		{nil, api.Sig{}},
		{[]int{}, api.Sig{}},
		{[]int{0}, api.Sig{1, 0}},
		{[]int{63}, api.Sig{1 << 63, 0}},
		{[]int{64}, api.Sig{0, 1}},
		{[]int{127}, api.Sig{0, 1 << 63}},
		{[]int{127, 0, 64, 0, 127, 127}, api.Sig{1, 1<<63 | 1}},
	} {
		if s, e := sig.From(c.bits); s != c.want || e != api.OK {
			t.Error(c.bits, s, e)
		}
	}
	for bit := range api.MaxBits {
		s, e := sig.From([]int{bit})
		if !has(s, bit) || sig.Count(s) != 1 || e != api.OK {
			t.Error(bit, s, e)
		}
	}
}

func TestFromRefuses(t *testing.T) {
	for _, bit := range []int{-1, -64, leastInt, api.MaxBits, api.MaxBits + 64, greatestInt} {
		for _, bits := range [][]int{{bit}, {0, bit}, {bit, 0}, {1, bit, 127}} {
			if s, e := sig.From(bits); s != (api.Sig{}) || e != api.ErrPlace {
				t.Error(bits, s, e)
			}
		}
	}
}

// P2.5

func TestTouchedWordByWord(t *testing.T) {
	for _, p := range somePairs() {
		a, b := p[0], p[1]
		var want []int
		for word := range api.SigWords {
			for bit := word * 64; bit < word*64+64; bit++ {
				if has(b, bit) && !has(a, bit) {
					want = append(want, word)
					break
				}
			}
		}
		if got := sig.Touched(a, b); !slices.Equal(got, want) {
			t.Fatal(a, b, got, want)
		}
	}
}

func TestTouchedByHand(t *testing.T) {
	for _, c := range []struct {
		a, b api.Sig
		want []int
	}{
		{api.Sig{}, api.Sig{}, nil},
		{api.Sig{}, api.Sig{1, 1}, []int{0, 1}},
		{api.Sig{1, 1}, api.Sig{}, nil},
		{api.Sig{1, 0}, api.Sig{1, 1 << 63}, []int{1}},
		{api.Sig{1, 6}, api.Sig{3, 2}, []int{0}},
		{api.Sig{7, 7}, api.Sig{7, 7}, nil},
		{api.Sig{0, 1}, api.Sig{1, 0}, []int{0}},
	} {
		if got := sig.Touched(c.a, c.b); !slices.Equal(got, c.want) {
			t.Error(c.a, c.b, got)
		}
	}
}

// P2.6

func TestFromOfBitsIsTheSignature(t *testing.T) {
	for _, p := range somePairs() {
		if s, e := sig.From(sig.Bits(p[0])); s != p[0] || e != api.OK {
			t.Fatal(p[0], s, e)
		}
	}
}

func TestCellsInCommonMeet(t *testing.T) {
	for bits := 1; bits <= api.MaxBits; bits++ {
		for cell := range api.MaxCells {
			few := of(t, bits, cell)
			other := of(t, bits, (cell+1)%api.MaxCells, cell)
			more := of(t, bits, (cell+17)%api.MaxCells, cell, (cell+90)%api.MaxCells)
			if !sig.Meets(few, few) || !sig.Meets(other, more) || !sig.Meets(more, other) {
				t.Fatal(bits, cell)
			}
			if !sig.Within(few, other) || !sig.Within(few, more) {
				t.Fatal(bits, cell)
			}
		}
	}
}

// The document's fourth example of the whole: with one bit, cells that are not one meet too.
func TestCellsApartMayMeet(t *testing.T) {
	if !sig.Meets(of(t, 1, 0), of(t, 1, 1)) || sig.Meets(of(t, 128, 0), of(t, 128, 1)) {
		t.Error(of(t, 128, 0), of(t, 128, 1))
	}
}

// R3

func TestListsHandedInStayAsTheyAre(t *testing.T) {
	room := []int{9, 3, 9, 77}
	of(t, 128, room[:3]...)
	if _, e := sig.From(room[:3]); e != api.OK {
		t.Error(e)
	}
	if !slices.Equal(room, []int{9, 3, 9, 77}) {
		t.Error(room)
	}
}

func TestAnswersAreNewMemory(t *testing.T) {
	s := api.Sig{1 << 63, 1}
	for _, answer := range []func() []int{
		func() []int { return sig.Bits(s) },
		func() []int { return sig.Touched(api.Sig{}, s) },
	} {
		first := answer()
		want := slices.Clone(first)
		room := first[:cap(first)]
		for i := range room {
			room[i] = -1
		}
		if second := answer(); !slices.Equal(second, want) {
			t.Error(second, want)
		}
	}
}

// The chapter's examples.

func TestExamples(t *testing.T) {
	zero := of(t, 128, 0)
	if zero != (api.Sig{1 << 58, 1 << 15}) || of(t, 128, 0, 0) != zero || of(t, 128) != (api.Sig{}) {
		t.Error(zero)
	}
	if got := sig.Touched(of(t, 128), zero); !slices.Equal(got, []int{0, 1}) {
		t.Error(got)
	}
	if got := sig.Bits(zero); sig.Count(zero) != 2 || !slices.Equal(got, []int{58, 79}) {
		t.Error(got)
	}
	for _, c := range []struct {
		cell, bits int
		want       api.Errno
	}{{0, 129, api.ErrArg}, {0, 0, api.ErrArg}, {256, 8, api.ErrPlace}, {-1, 8, api.ErrPlace}} {
		if _, _, e := sig.Hash(c.cell, c.bits); e != c.want {
			t.Error(c, e)
		}
	}
	if s, e := sig.From([]int{3, 64, 3}); s != (api.Sig{8, 1}) || e != api.OK {
		t.Error(s, e)
	}
	if _, e := sig.From([]int{128}); e != api.ErrPlace {
		t.Error(e)
	}
}
