package world_test

import (
	"fmt"
	"slices"
	"testing"

	"quash/api"
	"quash/code"
	"quash/script"
	"quash/world"
)

// wins is a config of so many cells and slots, under CommitWins, with few false meetings.
func wins(cells, slots int) api.Config {
	return api.Config{Cells: cells, Slots: slots, Bits: 128, Tag: api.CommitWins}
}

func program(t *testing.T, text string) []api.Instr {
	t.Helper()
	l, line, e := code.Parse(text)
	if e != api.OK {
		t.Fatal(text, line, e)
	}
	return l
}

func in(op api.Op, a int) api.Instr { return api.Instr{Op: op, A: a} }

// scripted is a script of these programs' texts.
func scripted(t *testing.T, c api.Config, start []int64, texts ...string) api.Script {
	t.Helper()
	s := api.Script{Config: c, Start: start}
	for _, text := range texts {
		s.Programs = append(s.Programs, program(t, text))
	}
	return s
}

func newWorld(t *testing.T, s api.Script) *world.World {
	t.Helper()
	w, e := world.New(s)
	if w == nil || e != api.OK {
		t.Fatal(s, e)
	}
	return w
}

// made is a world of programs' texts.
func made(t *testing.T, c api.Config, start []int64, texts ...string) *world.World {
	t.Helper()
	return newWorld(t, scripted(t, c, start, texts...))
}

func parsed(t *testing.T, text string) api.Script {
	t.Helper()
	s, line, e := script.Parse(text)
	if e != api.OK {
		t.Fatal(text, line, e)
	}
	return s
}

func state(t *testing.T, w *world.World, thread int) api.ProgState {
	x, is := w.State(thread)
	if !is {
		t.Helper() // it takes long, and this is asked often
		t.Fatal("no thread", thread)
	}
	return x
}

func peer(t *testing.T, w *world.World, thread int) api.Peer {
	p, is := w.Peer(thread)
	if !is {
		t.Helper() // it takes long, and this is asked often
		t.Fatal("no thread", thread)
	}
	return p
}

// goOn does so many steps of a thread that answer Ran.
func goOn(t *testing.T, w *world.World, thread, steps int) {
	t.Helper()
	for i := range steps {
		if a := w.Step(thread); a != api.Ran {
			t.Fatal("thread", thread, "step", i, "answer", a)
		}
	}
}

// mostSteps is more than a thread here does ahead of its end.
const mostSteps = 20000

// finish does steps of a thread till it has ended.
func finish(t *testing.T, w *world.World, thread int) {
	t.Helper()
	until(t, w, thread, func() bool { return state(t, w, thread).Done })
}

// until does steps of a thread till that is so.
func until(t *testing.T, w *world.World, thread int, so func() bool) {
	t.Helper()
	for range mostSteps {
		if so() {
			return
		}
		w.Step(thread)
	}
	t.Fatal("never so", thread, state(t, w, thread))
}

// drain goes round till all have ended.
func drain(t *testing.T, w *world.World) {
	t.Helper()
	for range mostSteps {
		ended := true
		for thread := 1; thread <= w.Threads(); thread++ {
			ended = w.Step(thread) == api.Ended && ended
		}
		if ended {
			return
		}
	}
	t.Fatal("not ended", w.View())
}

func wantTold(t *testing.T, w *world.World, thread int, want ...int64) {
	t.Helper()
	if got := state(t, w, thread).Told; !slices.Equal(got, want) {
		t.Error("thread", thread, "told", got, "want", want)
	}
}

func wantCells(t *testing.T, w *world.World, want ...int64) {
	t.Helper()
	if got := w.View().Cells; !slices.Equal(got, want) {
		t.Error("cells", got, "want", want)
	}
}

// seen is all that a world shows.
type seen struct {
	states  []api.ProgState
	peers   []api.Peer
	view    api.View
	events  []api.Event
	stories []api.Story
	log     []api.Access
}

func look(t *testing.T, w *world.World) seen {
	t.Helper()
	x := seen{view: w.View(), events: w.Events(), stories: w.Stories(), log: w.Log()}
	for thread := 1; thread <= w.Threads(); thread++ {
		x.states = append(x.states, state(t, w, thread))
		x.peers = append(x.peers, peer(t, w, thread))
	}
	return x
}

// same holds them against each other as they are printed, so that a list without elements may be nil or not.
func same(a, b any) bool { return fmt.Sprintf("%+v", a) == fmt.Sprintf("%+v", b) }

func wantSeen(t *testing.T, w *world.World, want seen) {
	t.Helper()
	if got := look(t, w); !same(got, want) {
		t.Fatalf("%+v\nwant %+v", got, want)
	}
}
