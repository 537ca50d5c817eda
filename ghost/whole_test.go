package ghost_test

import (
	"math/rand"
	"slices"
	"strconv"
	"strings"
	"testing"

	"quash/api"
	"quash/code"
	"quash/ghost"
	"quash/prog"
	"quash/space"
)

// crowd is threads of one space that do transactions at one time.
type crowd struct {
	s     *space.Space
	start []int64
	progs []*prog.Prog
}

// anyConfig is one of the three policies, with few bits now and then, and not always a slot for everybody.
func anyConfig(rnd *rand.Rand, cells, threads int) api.Config {
	c := api.Config{Cells: cells, Slots: 1 + rnd.Intn(threads), Bits: []int{1, 8, 128}[rnd.Intn(3)], Tag: api.CommitWins + rnd.Intn(3)}
	if c.Tag == api.ReaderBias {
		c.Bias, c.Defer = rnd.Intn(2), 1+rnd.Intn(3)
	}
	return c
}

// anyText is a program of transactions that load and store at random, some of which abort.
func anyText(rnd *rand.Rand, cells int) string {
	var b strings.Builder
	place := 0
	line := func(text string) { b.WriteString(text + "\n"); place++ }
	for range 1 + rnd.Intn(4) {
		line("begin")
		for range rnd.Intn(5) {
			line("push " + strconv.Itoa(rnd.Intn(cells)))
			if rnd.Intn(2) == 0 {
				line("load")
				line("pop")
			} else {
				line("push " + strconv.Itoa(rnd.Intn(1000)))
				line("store")
			}
		}
		if rnd.Intn(6) == 0 {
			line("abort " + strconv.Itoa(place+1))
		} else {
			line("commit")
		}
	}
	return b.String()
}

func newCrowd(t *testing.T, rnd *rand.Rand) *crowd {
	t.Helper()
	cells, threads := 1+rnd.Intn(4), 1+rnd.Intn(5)
	s, e := space.New(anyConfig(rnd, cells, threads))
	if e != api.OK {
		t.Fatal(e)
	}
	c := &crowd{s: s, start: make([]int64, cells)}
	for i := range c.start {
		c.start[i] = int64(-1 - i)
	}
	s.Fill(c.start)
	for thread := 1; thread <= threads; thread++ {
		list, line, e := code.Parse(anyText(rnd, cells))
		if e != api.OK {
			t.Fatal(line, e)
		}
		p, e := prog.New(s, thread, list)
		if e != api.OK {
			t.Fatal(e)
		}
		c.progs = append(c.progs, p)
	}
	return c
}

// look asks of the stories whether they are what the threads and the cells say.
func (c *crowd) look(t *testing.T) []api.Story {
	t.Helper()
	l := mustBuild(t, c.s.Events())
	if v := c.s.View(); v.Gate.Number%2 == 0 {
		wantFinal(t, c.start, l, v.Cells...)
	}
	wantTally(t, l, c.s.Events())
	for i, p := range c.progs {
		if p.Phase() == api.PhaseIdle || p.Phase() == api.PhaseBegin {
			continue
		}
		own := slices.DeleteFunc(slices.Clone(l), func(s api.Story) bool { return s.Thread != i+1 })
		s := own[len(own)-1]
		wantReads(t, s, p.Reads())
		wantWrites(t, s, p.Writes())
	}
	return l
}

// wantTally counts events: what begins and does not end lives.
func wantTally(t *testing.T, l []api.Story, events []api.Event) {
	t.Helper()
	var want api.Tally
	for _, v := range events {
		switch v.Kind {
		case api.EventBegin:
			want.Lives++
		case api.EventCommit:
			want.Lives--
			want.Commits++
		case api.EventAbort:
			want.Lives--
			want.Aborts++
			if v.E == api.ErrDoomed {
				want.Doomed++
			}
		}
	}
	if got := ghost.Count(l); got != want {
		t.Error("got", got, "want", want)
	}
}

// open has the places of the programs that have not ended.
func (c *crowd) open() []int {
	var l []int
	for i, p := range c.progs {
		if !p.Done() {
			l = append(l, i)
		}
	}
	return l
}

// Whatever threads do, their events make stories, which tell what was read and written, and what cells hold.
func TestStoriesOfRuns(t *testing.T) {
	rnd := rand.New(rand.NewSource(2172))
	var all api.Tally
	slots := 0
	for range 300 {
		c := newCrowd(t, rnd)
		for steps := 0; len(c.open()) > 0; steps++ {
			if steps > 100000 {
				t.Fatal("not ended")
			}
			open := c.open()
			i := open[rnd.Intn(len(open))]
			for range 1 + rnd.Intn(20) {
				c.s.Turn(i + 1)
				c.progs[i].Step()
			}
			n := ghost.Count(c.look(t))
			all.Lives += n.Lives
		}
		n := ghost.Count(c.look(t))
		all.Commits += n.Commits
		all.Aborts += n.Aborts
		all.Doomed += n.Doomed
		slots += len(slices.DeleteFunc(c.s.Events(), func(v api.Event) bool { return v.Kind != api.EventSlots }))
	}
	if all.Lives < 1000 || all.Commits < 1000 || all.Aborts-all.Doomed < 100 || all.Doomed < 100 || slots < 100 {
		t.Error("too little was played", all, slots)
	}
}
