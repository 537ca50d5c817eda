package world_test

import (
	"fmt"
	"math"
	"math/rand"
	"slices"
	"strings"
	"testing"

	"quash/api"
	"quash/ghost"
	"quash/opaque"
	"quash/sched"
	"quash/script"
	"quash/world"
)

// P24.5

const moving = "config 2 1 8 1 0 0\nstart 5\nthread\ndo bank 0 2 move 0 1 5\nend\n"

// wantPlay asks for the lines of a transcript.
func wantPlay(t *testing.T, text string, want ...string) {
	t.Helper()
	got, line, e := world.Play(text)
	if got != strings.Join(want, "\n")+"\n" || line != 0 || e != api.OK {
		t.Errorf("Play of %q:\n%s%d %v\nwant\n%s", text, got, line, e, strings.Join(want, "\n"))
	}
}

func TestPlayExamples(t *testing.T) {
	// How many steps the deed's program has is bank's own business; all of them but the last one answer Ran.
	got, line, e := world.Play(moving + "drain 100")
	first, rest, _ := strings.Cut(got, "\n")
	var picks, ran int
	if n, _ := fmt.Sscanf(first, "picks %d %d 0 1", &picks, &ran); n != 2 || ran != picks-1 || picks < 20 || strings.HasSuffix(first, " ") {
		t.Error(first)
	}
	if rest != "thread 1 done 0 told 1\ncells 0 5\ngate 2 0\nstories 0 1 0 0\nopaque 0 0\n" || line != 0 || e != api.OK {
		t.Error(got, line, e)
	}
	wantPlay(t, moving, "picks 0 0 0 0", "thread 1 at 0 told", "cells 5 0", "gate 0 0", "stories 0 0 0 0", "opaque 0 0")
}

func TestPlayLinesOfThreads(t *testing.T) {
	wantPlay(t, `config 1 1 8 1 0 0
thread
push 7
tell
push -9223372036854775808
tell
push 9223372036854775807
tell
end
thread
a:
jump a
end
thread
push 3
tell
pop
end
thread
begin
push 1
tell
halt
end
picks 0 0 0 0 0 0 0 0 1 2 2 2 2 3 3 3 3 3 3 3 3
`, "picks 21 18 0 3",
		"thread 1 done 0 told 7 -9223372036854775808 9223372036854775807",
		"thread 2 at 0 told",
		"thread 3 done 160 told 3",
		"thread 4 done 164 told",
		"cells 0", "gate 0 0", "stories 0 0 1 0", "opaque 0 0")
}

func TestPlayCountsWaits(t *testing.T) {
	const text = `config 1 2 8 1 0 0
start 5
thread
begin
push 0
push 6
store
commit
end
thread
begin
push 0
load
tell
commit
end
`
	// The first one holds the gate, the second one looks at it twice, having seen nothing yet.
	wantPlay(t, text+"picks 0 0 0 0 0 0 0 0\npicks 1 1 1 1 1 1 1 1 1 1", "picks 18 16 2 0", "thread 1 at 4 told", "thread 2 at 2 told", "cells 5", "gate 1 1", "stories 2 0 0 0", "opaque 0 0")
	// Step by step by turns, the second one has published its bit one step ahead of the gate's being taken: it waits till the gate is given back, finds that it is doomed, and begins anew.
	wantPlay(t, text+"drain 99", "picks 52 44 6 2", "thread 1 done 0 told", "thread 2 done 0 told 6", "cells 6", "gate 2 0", "stories 0 2 1 1", "opaque 0 0")
}

func TestPlayCountsTheDoomed(t *testing.T) {
	// The first one has read and rests, the second one writes; then the first one reads again.
	const text = "config 1 2 8 1 0 0\nthread\nbegin\npush 0\nload\npop\npush 0\nload\ntell\ncommit\nend\nthread\nbegin\npush 0\npush 6\nstore\ncommit\nend\n"
	picks := "picks" + strings.Repeat(" 0", 13) + strings.Repeat(" 1", 30) + strings.Repeat(" 0", 6)
	got, line, e := world.Play(text + picks)
	if l := strings.Split(got, "\n"); line != 0 || e != api.OK || l[2] != "thread 2 done 0 told" || l[4] != "gate 2 0" || l[5] != "stories 0 1 1 1" || l[6] != "opaque 0 0" {
		t.Error(got, line, e)
	}
}

func TestPlayTellsWhatParseTells(t *testing.T) {
	for _, text := range []string{
		"", "\n\n;", "x", "start 1", "config 0 1 1 1 0 0", "config 2 1 8 1 0 0\nx", "config 2 1 8 1 0 0",
		"config 1 1 8 1 0 0\nstart 1 2", moving + "thread", moving + "picks", moving + "drain 65537", moving + "drain -1", moving + "drain 1\ndrain 1",
		moving + "picks" + strings.Repeat(" 0", 65537), strings.Repeat(moving[19+8:], 9),
		"config 1 1 8 1 0 0\nthread\npush\nend", "config 1 1 8 1 0 0\nthread\ndo bank 0 2 move 0 2 5\nend", "config 1 1 8 1 0 0\nthread\ndo set 0 61 size\nend",
		"config 1 1 8 1 0 0\nthread\nend", moving + strings.Repeat(";", 1<<20), moving + strings.Repeat("\n", 1<<20-len(moving)+1),
		"\x00", "config 1 1 8 1 0 0\nthread\npush \xff\nend", strings.Repeat("config 1 1 8 1 0 0\n", 2),
	} {
		_, wantLine, want := script.Parse(text)
		if want == api.OK {
			t.Fatal(text)
		}
		if got, line, e := world.Play(text); got != "" || line != wantLine || e != want {
			t.Errorf("Play of %.50q: %q %d %v, want %d %v", text, got, line, e, wantLine, want)
		}
	}
	if got, line, e := world.Play("config 2 1 8 1 0 0\nx"); got != "" || line != 2 || e != api.ErrScriptLine {
		t.Error(got, line, e)
	}
}

// transcript is what Play is to tell, of a world laid together by hand.
func transcript(t *testing.T, s api.Script) string {
	t.Helper()
	p := newPlain(t, s)
	marks, e := sched.Run(len(s.Programs), p.step, s.Picks, s.Drain)
	if e != api.OK {
		t.Fatal(e)
	}
	var ran, wait, ended int
	for _, m := range marks {
		switch m.Answer {
		case 1:
			ran++
		case 2:
			wait++
		case 4:
			ended++
		default:
			t.Fatal(m)
		}
	}
	lines := []string{fmt.Sprint("picks ", len(marks), ran, wait, ended)}
	x := p.look()
	for i, one := range x.states {
		how := fmt.Sprint("at ", one.Place)
		if one.Done {
			how = fmt.Sprint("done ", int(one.E))
		}
		lines = append(lines, strings.TrimSpace(fmt.Sprint("thread ", i+1, " ", how, " told ", listed(one.Told))))
	}
	n := ghost.Count(x.stories)
	e, at := opaque.Check(s.Start, x.stories, opaque.Order(x.stories))
	lines = append(lines,
		"cells "+listed(x.view.Cells),
		fmt.Sprint("gate ", x.view.Gate.Number, x.view.Gate.Owner),
		fmt.Sprint("stories ", n.Lives, n.Commits, n.Aborts, n.Doomed),
		fmt.Sprint("opaque ", int(e), at), "")
	return strings.Join(lines, "\n")
}

func listed(l []int64) string { return strings.Trim(fmt.Sprint(l), "[]") }

func TestPlayAgainstAPlainTranscript(t *testing.T) {
	rnd := rand.New(rand.NewSource(2405))
	found := map[string]int{}
	for range 300 {
		s := anyScript(rnd, 8)
		s.Picks, s.Drain = anyPicks(rnd, len(s.Programs), rnd.Intn(40)), rnd.Intn(2)*rnd.Intn(2000)
		text, e := script.Print(s)
		if e != api.OK {
			t.Fatal(e)
		}
		want := transcript(t, s)
		if got, line, e := world.Play(text); got != want || line != 0 || e != api.OK {
			t.Fatalf("%s%s%d %v\nwant\n%s", text, got, line, e, want)
		}
		for _, word := range []string{" done 0 told", " done 16", " done 10", " at ", " told\n", " told -", "stories 0 ", "gate 0 0"} {
			if strings.Contains(want, word) {
				found[word]++
			}
		}
	}
	for _, word := range []string{" done 0 told", " done 16", " done 10", " at ", " told\n", " told -", "stories 0 ", "gate 0 0"} {
		if found[word] < 3 {
			t.Error("too little was played", word, found)
		}
	}
}

// The longest of what may be asked for comes to an end.
func TestPlayOfAllLimits(t *testing.T) {
	var b strings.Builder
	b.WriteString("config 256 8 128 3 8 64\nstart" + strings.Repeat(fmt.Sprint(" ", math.MinInt64), 256) + "\n")
	for range 7 {
		b.WriteString("thread\na:\nbegin\npush 0\npush 0\nload\npush 1\nadd\nstore\ncommit\njump a\nend\n")
	}
	b.WriteString("thread\na:\npush 1\ntell\njump a\nend\n")
	b.WriteString("picks" + strings.Repeat(" -1", 65536) + "\ndrain 65536")
	got, line, e := world.Play(b.String())
	l := strings.Split(got, "\n")
	if line != 0 || e != api.OK || len(l) != 14 || !strings.HasPrefix(l[0], "picks 131072 ") || l[8] != "thread 8 at 0 told"+strings.Repeat(" 1", (65536+8192)/3) || l[12] != "opaque 0 0" {
		t.Errorf("%.200s %d %v", got, line, e)
	}
}

// P24.10

func TestPlayHangsOnTheTextAlone(t *testing.T) {
	rnd := rand.New(rand.NewSource(2410))
	var texts, first []string
	for range 40 {
		s := anyScript(rnd, 8)
		s.Picks, s.Drain = anyPicks(rnd, len(s.Programs), 30), 300
		text, _ := script.Print(s)
		got, _, _ := world.Play(text)
		texts, first = append(texts, text), append(first, got)
	}
	for range 3 {
		for _, i := range rnd.Perm(len(texts)) {
			if got, line, e := world.Play(texts[i]); got != first[i] || line != 0 || e != api.OK {
				t.Fatal(texts[i], got, first[i])
			}
		}
	}
	done := make(chan string)
	for i := range texts {
		go func() {
			got, _, _ := world.Play(texts[i])
			if got == first[i] {
				got = ""
			}
			done <- got
		}()
	}
	for range texts {
		if got := <-done; got != "" {
			t.Error("beside others it is another one", got)
		}
	}
}

// Steps in the order in which a Run's marks fall on threads that had not ended lead to where the Run does.
func TestStepsOfMarks(t *testing.T) {
	rnd := rand.New(rand.NewSource(24100))
	for range 200 {
		s := anyScript(rnd, 8)
		a, b := newWorld(t, s), newWorld(t, s)
		marks, e := a.Run(anyPicks(rnd, len(s.Programs), rnd.Intn(40)), rnd.Intn(500))
		if e != api.OK {
			t.Fatal(e)
		}
		ended := map[int]bool{}
		for _, m := range marks {
			if ended[m.Thread] {
				continue
			}
			if got := b.Step(m.Thread); got != m.Answer {
				t.Fatal(m, got)
			}
			ended[m.Thread] = m.Answer == api.Ended
		}
		wantSeen(t, b, look(t, a))
	}
}

// Picks may be parted anywhere: it is the drain alone that asks in a further Run once more who has ended.
func TestRunsOneBehindTheOther(t *testing.T) {
	rnd := rand.New(rand.NewSource(24101))
	for range 100 {
		s := anyScript(rnd, 8)
		picks := anyPicks(rnd, len(s.Programs), 60)
		a, b := newWorld(t, s), newWorld(t, s)
		whole, _ := a.Run(picks, 0)
		at := rnd.Intn(len(picks) + 1)
		first, _ := b.Run(picks[:at], 0)
		second, _ := b.Run(picks[at:], 0)
		parts := slices.Concat(first, second)
		for i := range parts {
			parts[i].Pick = i + 1
		}
		if !slices.Equal(parts, whole) {
			t.Fatal(parts, whole)
		}
		wantSeen(t, b, look(t, a))
	}
}
