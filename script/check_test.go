package script_test

import (
	"math"
	"testing"

	"quash/api"
	"quash/space"
)

// P23.1

func TestCheckOfConfigs(t *testing.T) {
	numbers := []int{math.MinInt, -1, 0, 1, 2, 3, 4, 8, 9, 64, 65, 128, 129, 256, 257, math.MaxInt}
	for _, n := range numbers {
		for _, c := range []api.Config{
			{Cells: n, Slots: 2, Bits: 8, Tag: 1},
			{Cells: 4, Slots: n, Bits: 8, Tag: 1},
			{Cells: 4, Slots: 2, Bits: n, Tag: 1},
			{Cells: 4, Slots: 2, Bits: 8, Tag: n},
			{Cells: 4, Slots: 2, Bits: 8, Tag: 2, Bias: n},
			{Cells: 4, Slots: 2, Bits: 8, Tag: 3, Defer: n},
		} {
			s := plainOne()
			s.Config = c
			wantCheck(t, s, space.Check(c))
		}
	}
	wantCheck(t, api.Script{}, api.ErrArg)
}

func TestCheckOfStarts(t *testing.T) {
	for _, cells := range []int{1, 2, 255, 256} {
		for _, values := range []int{0, 1, 2, 3, 254, 255, 256, 257, 5000} {
			s := plainOne()
			s.Config.Cells = cells
			s.Start = many(values, int64(math.MinInt64))
			want := api.OK
			if values > cells {
				want = api.ErrScriptStart
			}
			wantCheck(t, s, want)
		}
	}
}

func TestCheckOfThreads(t *testing.T) {
	for threads := range 20 {
		s := plainOne()
		s.Programs = many(threads, list(in(api.DoHalt, 0)))
		want := api.OK
		if threads < 1 || threads > 8 {
			want = api.ErrScriptThreads
		}
		wantCheck(t, s, want)
	}
}

func TestCheckOfPrograms(t *testing.T) {
	for _, c := range []struct {
		l []api.Instr
		e api.Errno
	}{
		{nil, api.ErrCodeLong},
		{list(), api.ErrCodeLong},
		{many(400, in(api.DoHalt, 0)), api.OK},
		{many(401, in(api.DoHalt, 0)), api.ErrCodeLong},
		{list(in(0, 0)), api.ErrCodeOp},
		{list(in(api.DoHalt, 0), in(23, 0)), api.ErrCodeOp},
		{list(in(api.DoGet, 8)), api.ErrCodeArg},
		{list(in(api.DoJump, 1)), api.OK},
		{list(in(api.DoJump, 2)), api.ErrCodeArg},
		// What goes wrong when it runs is not asked.
		{list(in(api.DoPop, 0)), api.OK},
		{list(in(api.DoCommit, 0)), api.OK},
		{list(in(api.DoBegin, 0)), api.OK},
	} {
		for threads := 1; threads <= 8; threads++ {
			for at := range threads {
				s := plainOne()
				s.Programs = many(threads, list(in(api.DoHalt, 0)))
				s.Programs[at] = c.l
				wantCheck(t, s, c.e)
			}
		}
	}
	s := plainOne()
	s.Programs = [][]api.Instr{list(in(api.DoHalt, 0)), list(in(api.DoGet, 8)), list(in(23, 0)), nil}
	wantCheck(t, s, api.ErrCodeArg)
	s.Programs[1], s.Programs[2] = s.Programs[2], s.Programs[1]
	wantCheck(t, s, api.ErrCodeOp)
	s.Programs[0], s.Programs[3] = s.Programs[3], s.Programs[0]
	wantCheck(t, s, api.ErrCodeLong)
}

func TestCheckOfPicks(t *testing.T) {
	for _, c := range []struct {
		picks, drain int
		e            api.Errno
	}{
		{0, 0, api.OK},
		{1, 1, api.OK},
		{65535, 0, api.OK},
		{65536, 0, api.OK},
		{65537, 0, api.ErrScriptPicks},
		{200000, 0, api.ErrScriptPicks},
		{0, 65535, api.OK},
		{0, 65536, api.OK},
		{0, 65537, api.ErrScriptPicks},
		{0, -1, api.ErrScriptPicks},
		{0, math.MinInt, api.ErrScriptPicks},
		{0, math.MaxInt, api.ErrScriptPicks},
		{65536, 65536, api.OK},
		{65537, 65537, api.ErrScriptPicks},
	} {
		for _, pick := range []int{0, -1, 5, math.MinInt, math.MaxInt} {
			s := plainOne()
			s.Picks, s.Drain = many(c.picks, pick), c.drain
			wantCheck(t, s, c.e)
		}
	}
}

// Of several errors the first one is told.
func TestCheckTellsTheFirst(t *testing.T) {
	s := api.Script{Config: api.Config{Cells: 1}, Start: []int64{1, 2}, Drain: -1}
	s.Programs = many(9, list(in(23, 0)))
	wantCheck(t, s, api.ErrArg)
	s.Config = api.Config{Cells: 1, Slots: 1, Bits: 1, Tag: 1}
	wantCheck(t, s, api.ErrScriptStart)
	s.Start = s.Start[:1]
	wantCheck(t, s, api.ErrScriptThreads)
	s.Programs = s.Programs[:8]
	wantCheck(t, s, api.ErrCodeOp)
	for i := range s.Programs {
		s.Programs[i] = list(in(api.DoHalt, 0))
	}
	wantCheck(t, s, api.ErrScriptPicks)
	s.Drain = 0
	wantCheck(t, s, api.OK)
}
