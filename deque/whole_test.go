package deque_test

import (
	"math/rand"
	"slices"
	"testing"

	"quash/api"
	"quash/code"
	"quash/deque"
	"quash/prog"
	"quash/space"
)

// crowd is threads of one space that do deeds to one deque at one time.
type crowd struct {
	s     *space.Space
	deeds [][]api.Deed // of each thread, in order
	progs []*prog.Prog
}

// anyConfig is one of the three policies, with few bits now and then, and not always a slot for everybody.
func anyConfig(rnd *rand.Rand, cells, threads int) api.Config {
	c := api.Config{Cells: cells, Slots: 1 + rnd.Intn(threads), Bits: []int{1, 8, 128}[rnd.Intn(3)], Tag: api.CommitWins + rnd.Intn(3)}
	if c.Tag == api.ReaderBias {
		c.Bias, c.Defer = rnd.Intn(2), 1+rnd.Intn(3)
	}
	return c
}

func newCrowd(t *testing.T, rnd *rand.Rand, cells []int64, base, n int) *crowd {
	t.Helper()
	threads := 2 + rnd.Intn(3)
	s, e := space.New(anyConfig(rnd, len(cells), threads))
	if e != api.OK || s.Fill(cells) != api.OK {
		t.Fatal(e)
	}
	c := &crowd{s: s}
	for thread := 1; thread <= threads; thread++ {
		var parts [][]api.Instr
		var deeds []api.Deed
		for range 1 + rnd.Intn(4) {
			d := anyDeed(rnd)
			deeds = append(deeds, d)
			parts = append(parts, mustCode(t, base, n, d))
		}
		list, e := code.Join(parts...)
		if e != api.OK {
			t.Fatal(e)
		}
		p, e := prog.New(s, thread, list)
		if e != api.OK {
			t.Fatal(e)
		}
		c.progs = append(c.progs, p)
		c.deeds = append(c.deeds, deeds)
	}
	return c
}

// play makes steps in any order till all have ended.
func (c *crowd) play(t *testing.T, rnd *rand.Rand) {
	t.Helper()
	for range 200000 {
		open := []int{}
		for i, p := range c.progs {
			if !p.Done() {
				open = append(open, i)
			}
		}
		if len(open) == 0 {
			return
		}
		i := open[rnd.Intn(len(open))]
		for range 1 + rnd.Intn(40) {
			c.s.Turn(i + 1)
			c.progs[i].Step()
		}
	}
	t.Fatal("not ended")
}

// order has the threads of the commits, in the order in which they count: by the gate's number, which is odd of those that wrote.
func (c *crowd) order() (threads []int, aborts int) {
	var commits []api.Event
	for _, v := range c.s.Events() {
		switch v.Kind {
		case api.EventCommit:
			commits = append(commits, v)
		case api.EventAbort:
			aborts++
		}
	}
	slices.SortStableFunc(commits, func(a, b api.Event) int { return a.Gate - b.Gate })
	for _, v := range commits {
		threads = append(threads, v.Thread)
	}
	return threads, aborts
}

// Deeds at one time leave, and tell, what they would one behind the other, as they committed.
func TestDeedsAtOneTime(t *testing.T) {
	rnd := rand.New(rand.NewSource(2092))
	aborted, turned := 0, 0
	for range 1000 {
		n, base := 1+rnd.Intn(5), rnd.Intn(3)
		l := anyRow(rnd, n)
		room := deque.Room(n)
		cells := within(rnd, layout(rnd, n, l), base, base+room+rnd.Intn(3))
		c := newCrowd(t, rnd, cells, base, n)
		c.play(t, rnd)
		order, aborts := c.order()
		aborted += aborts
		if !slices.IsSorted(order) {
			turned++
		}
		told := make([][]int64, len(c.progs))
		next := make([]int, len(c.progs))
		for _, thread := range order {
			i := thread - 1
			after, tells := plainDo(l, n, c.deeds[i][next[i]])
			l, told[i] = after, append(told[i], tells...)
			next[i]++
		}
		got := c.s.View().Cells
		if !slices.Equal(got[:base], cells[:base]) || !slices.Equal(got[base+room:], cells[base+room:]) {
			t.Fatal("other cells", got, cells)
		}
		wantRead(t, got, base, n, l)
		for i, p := range c.progs {
			if x := p.State(); x.E != api.OK || !slices.Equal(x.Told, told[i]) || next[i] != len(c.deeds[i]) {
				t.Fatal(x, "want", told[i], c.deeds, order)
			}
		}
	}
	if aborted < 500 || turned < 300 {
		t.Error("too little was played", aborted, turned)
	}
}
