package world_test

import (
	"math/rand"
	"strconv"
	"testing"

	"quash/api"
	"quash/opaque"
)

// W1 to W8, W10, P24.7, P24.8: whatever threads do.
func TestWhateverThreadsDo(t *testing.T) {
	rnd := rand.New(rand.NewSource(2407))
	counts := map[string]int{}
	for range 800 {
		s := anyScript(rnd, 6)
		x := newWatch(t, s)
		for _, thread := range anyTurns(rnd, len(s.Programs), 50) {
			x.step(t, thread)
		}
		x.end(t)
		for what, n := range x.counts {
			counts[what] += n
		}
	}
	for what, least := range map[string]int{
		"wait": 200, "take": 300, "doom": 100, "begin": 1000, "slots": 200, "read": 1000, "commit": 500, "leave": 200, "abort": 300,
		"doomed": 100, "defer": 20, "yield": 20, "own": 100, "writes": 3, "wrong": 10, "holds": 5000, "verified": 300, "refused": 50,
	} {
		if counts[what] < least {
			t.Error("too little was played", what, counts[what])
		}
	}
}

// Eight threads, all slots, all of them at the same cells: who holds the gate looks at the most that there may be.
func TestCrowds(t *testing.T) {
	rnd := rand.New(rand.NewSource(2408))
	counts := map[string]int{}
	const reads = "a:\nbegin\npush 0\nload\npop\npush 1\nload\npop\npush 2\nload\npop\ncommit\njump a"
	for range 30 {
		c := api.Config{Cells: 16, Slots: 8, Bits: oneOf(rnd, 1, 64, 128), Tag: api.CommitWins + rnd.Intn(3), Bias: rnd.Intn(4), Defer: rnd.Intn(3)}
		s := scripted(t, c, nil, reads, reads, reads, reads, reads, reads)
		m := &maker{rnd: rnd, cells: 16}
		m.say("a:", "begin")
		for _, cell := range rnd.Perm(16) {
			m.say("push "+strconv.Itoa(cell), "push 8", "store")
		}
		m.say("commit", "jump a")
		writes := program(t, m.b.String())
		s.Programs = append(s.Programs, writes, writes)
		x := newWatch(t, s)
		for range 120 {
			thread := oneOf(rnd, 1, 2, 3, 4, 5, 6, 7, 8, 7, 8, 7, 8)
			for range rnd.Intn(25) {
				x.step(t, thread)
			}
		}
		x.end(t)
		for what, n := range x.counts {
			counts[what] += n
		}
	}
	for _, what := range []string{"wait", "take", "doom", "doomed", "commit", "defer", "yield"} {
		if counts[what] < 10 {
			t.Error("too little was played", what, counts)
		}
	}
}

// fewSwitches makes a world's steps: so many of the threads by turns, then all others.
func fewSwitches(t *testing.T, s api.Script, steps ...int) map[string]int {
	t.Helper()
	x := newWatch(t, s)
	n := len(s.Programs)
	for i, many := range steps {
		for range many {
			x.step(t, 1+i%n)
		}
	}
	for rounds := 0; ; rounds++ {
		ended := true
		for thread := 1; thread <= n; thread++ {
			for range 200 {
				if x.step(t, thread) == api.Ended {
					break
				}
			}
			ended = ended && state(t, x.w, thread).Done
		}
		if ended {
			break
		}
		if rounds > 50 {
			t.Fatal("no end", steps)
		}
	}
	x.end(t)
	return x.counts
}

// Each schedule of two threads with up to two switches: who reads and who writes meet at every place.
func TestFewSwitches(t *testing.T) {
	const (
		reads  = "begin\npush 0\nload\ntell\npush 1\nload\ntell\ncommit"
		writes = "begin\npush 1\npush 7\nstore\npush 0\npush 8\nstore\ncommit"
		copies = "begin\npush 1\npush 0\nload\nstore\ncommit"
	)
	counts := map[string]int{}
	for _, texts := range [][]string{{reads, writes}, {copies, writes}, {adding, adding}} {
		for tag := api.CommitWins; tag <= api.Aging; tag++ {
			c := wins(2, 2)
			c.Tag, c.Defer = tag, 1
			s := scripted(t, c, []int64{1, 2}, texts...)
			for first := range 25 {
				for second := range 30 {
					for what, n := range fewSwitches(t, s, first, second) {
						counts[what] += n
					}
				}
			}
		}
	}
	for _, what := range []string{"wait", "doom", "doomed", "defer", "yield", "leave"} {
		if counts[what] < 20 {
			t.Error("too little was played", what, counts)
		}
	}
}

// W4, W6: the most that a committer has to do: seven victims, and sixteen cells.
func TestTheLongestCommit(t *testing.T) {
	m := &maker{}
	m.say("begin")
	for cell := range api.MaxWrites {
		m.say("push "+strconv.Itoa(cell), "push 1", "store")
	}
	m.say("commit")
	texts := []string{m.b.String()}
	for range 7 {
		texts = append(texts, "begin\npush 3\nload\npop\npush 3\nload\ncommit")
	}
	x := newWatch(t, scripted(t, wins(16, 8), nil, texts...))
	for thread := 2; thread <= 8; thread++ {
		for len(peer(t, x.w, thread).Reads) == 0 {
			x.step(t, thread)
		}
	}
	for x.w.View().Gate.Owner == 0 {
		x.step(t, 1)
	}
	steps := 0
	for ; peer(t, x.w, 1).Phase != api.PhaseIdle; steps++ {
		x.step(t, 1)
	}
	if steps > mostHeld || x.counts["doom"] != 7 || x.counts["commit"] != 1 {
		t.Error(steps, x.counts)
	}
	wantCells(t, x.w, 1, 1, 1, 1, 1, 1, 1, 1, 1, 1, 1, 1, 1, 1, 1, 1)
	for thread := 2; thread <= 8; thread++ {
		for state(t, x.w, thread).Tries == 0 {
			x.step(t, thread)
		}
	}
	if x.counts["doomed"] != 7 {
		t.Error(x.counts)
	}
	x.end(t)
}

// W7: whenever a thread has not ended, there is one whose next step is no Wait, or it gives the gate up, being deferred.
func TestSomebodyGoesOn(t *testing.T) {
	rnd := rand.New(rand.NewSource(7))
	waits := 0
	for range 250 {
		s := anyScript(rnd, 4)
		turns := anyTurns(rnd, len(s.Programs), 40)
		for range 8 {
			at := rnd.Intn(len(turns) + 1)
			open, goes := false, false
			for thread := range len(s.Programs) {
				w := newWorld(t, s)
				for _, one := range turns[:at] {
					w.Step(one)
				}
				open = open || !state(t, w, thread+1).Done
				gate := w.View().Gate
				switch w.Step(thread + 1) {
				case api.Ran:
					goes = true
				case api.Wait:
					waits++
					goes = goes || gate.Owner == thread+1 && w.View().Gate.Owner == 0
				}
			}
			if open && !goes {
				t.Fatal(s, turns[:at])
			}
		}
	}
	if waits < 20 {
		t.Error("too little was played", waits)
	}
}

// W1: where there are few attempts, all orders are looked through, and one is found.
func TestAnOrderIsFound(t *testing.T) {
	rnd := rand.New(rand.NewSource(1))
	searched := 0
	for range 300 {
		s := anyScript(rnd, 5)
		w := newWorld(t, s)
		for _, thread := range anyTurns(rnd, len(s.Programs), 15) {
			w.Step(thread)
		}
		l := w.Stories()
		if len(l) < 2 || len(l) > api.MaxTried {
			continue
		}
		searched++
		if order, is, e := opaque.Search(s.Start, l); !is || e != api.OK || len(order) != len(l) {
			t.Fatal(l, order, is, e)
		}
	}
	if searched < 100 {
		t.Error("too little was played", searched)
	}
}
