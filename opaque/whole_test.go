package opaque_test

import (
	"math/rand"
	"slices"
	"strconv"
	"strings"
	"testing"

	"quash/api"
	"quash/code"
	"quash/ghost"
	"quash/opaque"
	"quash/prog"
	"quash/space"
)

// P22.5

// Where an order is taken, one is found, which is not greater.
func TestWhatIsTakenIsFound(t *testing.T) {
	rnd := rand.New(rand.NewSource(225))
	taken := 0
	for range 5000 {
		start := anyStart(rnd)
		l, order := lived(rnd, start, rnd.Intn(8))
		if rnd.Intn(2) == 0 {
			spoil(rnd, l)
		}
		if e, _ := opaque.Check(start, l, order); e != api.OK {
			continue
		}
		taken++
		got, is, e := opaque.Search(start, l)
		if !is || e != api.OK || !notGreater(got, order) {
			t.Fatal(start, l, order, got, is, e)
		}
		wantCheck(t, start, l, got, api.OK, 0)
	}
	if taken < 3000 {
		t.Error("too little was tried", taken)
	}
}

// Who comes one behind the other, and reads what is there, is explained in that order; a read of another value is told by its story's place.
func TestOneBehindTheOther(t *testing.T) {
	rnd := rand.New(rand.NewSource(2250))
	changed := 0
	for range 5000 {
		start := anyStart(rnd)
		l, order := lived(rnd, start, 1+rnd.Intn(12))
		wantCheck(t, start, l, order, api.OK, 0)
		at := rnd.Intn(len(order))
		moves := l[order[at]].Moves
		for i := range moves {
			if !moves[i].Write {
				moves[i].X += int64(1 + rnd.Intn(3))
				wantCheck(t, start, l, order, api.ErrOpaqueRead, at)
				changed++
				break
			}
		}
	}
	if changed < 2000 {
		t.Error("too little was tried", changed)
	}
}

// P22.6

// Neighbours neither of which leaves anything may change places, if the time lets them; else it is told.
func TestNeighboursChangePlaces(t *testing.T) {
	rnd := rand.New(rand.NewSource(226))
	may, late := 0, 0
	for range 10000 {
		start := anyStart(rnd)
		l, order := lived(rnd, start, 2+rnd.Intn(10))
		at := rnd.Intn(len(order) - 1)
		first, second := l[order[at]], l[order[at+1]]
		if plainChanges(first) || plainChanges(second) {
			continue
		}
		order[at], order[at+1] = order[at+1], order[at]
		if plainEndsAhead(first, second) {
			wantCheck(t, start, l, order, api.ErrOpaqueTime, at+1)
			late++
		} else {
			wantCheck(t, start, l, order, api.OK, 0)
			may++
		}
	}
	if may < 1000 || late < 200 {
		t.Error("too little was tried", may, late)
	}
}

// Each beginning of an order that is taken is one of its own stories alone.
func TestBeginningsAreTaken(t *testing.T) {
	rnd := rand.New(rand.NewSource(2260))
	for range 1000 {
		start := anyStart(rnd)
		l, order := lived(rnd, start, rnd.Intn(12))
		for many := range len(order) + 1 {
			var own []api.Story
			for _, place := range order[:many] {
				own = append(own, l[place])
			}
			wantTaken(t, start, own...)
		}
	}
}

// Runs of programs.

// anyText is a program of transactions that load, store what they loaded and one more, or something else, some of which abort.
func anyText(rnd *rand.Rand, cells int) string {
	var lines []string
	for range 1 + rnd.Intn(3) {
		lines = append(lines, "begin")
		for range rnd.Intn(5) {
			cell := "push " + strconv.Itoa(rnd.Intn(cells))
			switch rnd.Intn(4) {
			case 0:
				lines = append(lines, cell, "push "+strconv.Itoa(rnd.Intn(1000)), "store")
			case 1:
				lines = append(lines, cell, "dup", "load", "push 1", "add", "store")
			default:
				lines = append(lines, cell, "load", "pop")
			}
		}
		if rnd.Intn(6) == 0 {
			lines = append(lines, "abort "+strconv.Itoa(len(lines)+1))
		} else {
			lines = append(lines, "commit")
		}
	}
	return strings.Join(lines, "\n") + "\n"
}

func anyConfig(rnd *rand.Rand, cells, threads int) api.Config {
	c := api.Config{Cells: cells, Slots: 1 + rnd.Intn(threads), Bits: oneOf(rnd, 1, 8, 128), Tag: api.CommitWins + rnd.Intn(3)}
	if c.Tag == api.ReaderBias {
		c.Bias, c.Defer = rnd.Intn(2), 1+rnd.Intn(3)
	}
	return c
}

// newRun has threads of one space, each with a program.
func newRun(t *testing.T, rnd *rand.Rand, start []int64) (*space.Space, []*prog.Prog) {
	t.Helper()
	threads := 1 + rnd.Intn(5)
	s, e := space.New(anyConfig(rnd, len(start), threads))
	if e != api.OK {
		t.Fatal(e)
	}
	s.Fill(start)
	var progs []*prog.Prog
	for i := range threads {
		list, line, e := code.Parse(anyText(rnd, len(start)))
		if e != api.OK {
			t.Fatal(line, e)
		}
		p, e := prog.New(s, i+1, list)
		if e != api.OK {
			t.Fatal(e)
		}
		progs = append(progs, p)
	}
	return s, progs
}

// play does steps of any threads till all have ended, and looks between.
func play(t *testing.T, rnd *rand.Rand, s *space.Space, progs []*prog.Prog, look func()) {
	t.Helper()
	left := upTo(len(progs))
	for rounds := 0; len(left) > 0; rounds++ {
		if rounds > 100000 {
			t.Fatal("not ended")
		}
		i := oneOf(rnd, left...)
		for range 1 + rnd.Intn(12) {
			s.Turn(i + 1)
			progs[i].Step()
		}
		look()
		left = slices.DeleteFunc(left, func(i int) bool { return progs[i].Done() })
	}
}

// Whatever threads do, at every time the order by points goes with the time and explains all that was read.
func TestRunsAreOpaque(t *testing.T) {
	rnd := rand.New(rand.NewSource(2261))
	var all api.Tally
	searched := 0
	for range 300 {
		start := []int64{-1, -2, -3}[:1+rnd.Intn(3)]
		s, progs := newRun(t, rnd, start)
		var l []api.Story
		play(t, rnd, s, progs, func() {
			var e api.Errno
			if l, _, e = ghost.Build(s.Events()); e != api.OK {
				t.Fatal(e)
			}
			order := opaque.Order(l)
			if e, at := opaque.Check(start, l, order); e != api.OK || at != 0 {
				t.Fatal(start, l, order, e, at)
			}
			if len(l) > api.MaxTried {
				return
			}
			searched++
			if got, is, e := opaque.Search(start, l); !is || e != api.OK || !notGreater(got, order) {
				t.Fatal(start, l, order, got, is, e)
			}
		})
		wantLie(t, rnd, start, l)
		n := ghost.Count(l)
		all.Commits += n.Commits
		all.Aborts += n.Aborts
		all.Doomed += n.Doomed
	}
	if all.Commits < 1000 || all.Aborts < 200 || all.Doomed < 100 || searched < 1000 {
		t.Error("too little was played", all, searched)
	}
}

// wantLie changes a read of a run, which is told then.
func wantLie(t *testing.T, rnd *rand.Rand, start []int64, l []api.Story) {
	t.Helper()
	order := opaque.Order(l)
	for _, at := range rnd.Perm(len(order)) {
		for i := range l[order[at]].Moves {
			if m := &l[order[at]].Moves[i]; !m.Write {
				m.X++
				wantCheck(t, start, l, order, api.ErrOpaqueRead, at)
				m.X--
				return
			}
		}
	}
}
