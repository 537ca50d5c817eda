package code_test

import (
	"math"
	"math/rand"
	"slices"
	"strconv"
	"strings"
	"testing"

	"quash/api"
	"quash/code"
)

// P15.3

func TestVerifyAnswersWhatCheckRefuses(t *testing.T) {
	for _, l := range [][]api.Instr{
		nil,
		many(401, in(api.DoHalt, 0)),
		list(in(api.DoHalt, 0), in(0, 0)),
		list(in(api.DoHalt, 0), in(api.DoHalt, 0), in(api.DoHalt, 1)),
		list(in(api.DoPop, 0), in(api.DoJump, 3)),
		list(in(api.DoPop, 0), in(api.DoJump, -1)),
		list(in(api.DoPop, 0), in(math.MaxInt, 0)),
	} {
		e, at := code.Check(l)
		if e == api.OK {
			t.Fatal(l)
		}
		if gotE, gotAt := code.Verify(l); gotE != e || gotAt != at {
			t.Error(l, gotE, gotAt, e, at)
		}
	}
}

// mayStand tells where an instruction may: outside, inside.
func mayStand(word string) (bool, bool) {
	switch word {
	case "begin", "halt":
		return true, false
	case "load", "store", "commit", "abort":
		return false, true
	}
	return true, true
}

// written is an instruction that stands at that place; where it takes a place, that is the next one.
func written(r told, at int) string {
	switch r.takes {
	case api.TakesNone:
		return r.word
	case api.TakesPlace:
		return r.word + " " + strconv.Itoa(at+1)
	}
	return r.word + " 3"
}

func TestVerifyOfEveryInstructionOutside(t *testing.T) {
	for _, r := range chapter() {
		for depth := range 33 {
			text := strings.Repeat("push 1\n", depth) + written(r, depth)
			mayOut, _ := mayStand(r.word)
			switch {
			case depth < r.pops || depth-r.pops+r.pushes > 32:
				wantVerify(t, text, api.ErrCodeDepth, depth)
			case !mayOut:
				wantVerify(t, text, api.ErrCodeTx, depth)
			case r.word == "begin":
				wantVerify(t, text+"\ncommit", api.OK, 0)
			default:
				wantVerify(t, text, api.OK, 0)
			}
		}
	}
}

func TestVerifyOfEveryInstructionInside(t *testing.T) {
	for _, r := range chapter() {
		for depth := range 33 {
			pushes := strings.Repeat("push 1\n", depth)
			at := depth + 1
			// The begin may lie behind the pushes, or ahead of them.
			for _, ahead := range []string{pushes + "begin\n", "begin\n" + pushes} {
				text := ahead + written(r, at)
				_, mayIn := mayStand(r.word)
				switch {
				case depth < r.pops || depth-r.pops+r.pushes > 32:
					wantVerify(t, text, api.ErrCodeDepth, at)
				case !mayIn:
					wantVerify(t, text, api.ErrCodeTx, at)
				case r.word == "commit" || r.word == "abort":
					wantVerify(t, text, api.OK, 0)
					wantVerify(t, text+"\ncommit", api.ErrCodeTx, at+1)
				default:
					wantVerify(t, text, api.ErrCodeTx, at+1)
					wantVerify(t, text+"\ncommit", api.OK, 0)
				}
			}
		}
	}
}

func TestVerifyCountsWhatIsPoppedAndPushed(t *testing.T) {
	for _, r := range chapter() {
		if slices.Contains([]string{"abort", "commit", "begin", "halt"}, r.word) {
			continue
		}
		left := 5 - r.pops + r.pushes
		text := strings.Repeat("push 1\n", 5) + "begin\n" + written(r, 6) + "\ncommit\n"
		wantVerify(t, text+strings.Repeat("pop\n", left), api.OK, 0)
		wantVerify(t, text+strings.Repeat("pop\n", left+1), api.ErrCodeDepth, 8+left)
		wantVerify(t, text+strings.Repeat("push 1\n", 32-left), api.OK, 0)
		wantVerify(t, text+strings.Repeat("push 1\n", 33-left), api.ErrCodeDepth, 8+32-left)
	}
}

func TestVerifyTellsTheDepthAheadOfTheTransaction(t *testing.T) {
	wantVerify(t, "load", api.ErrCodeDepth, 0)
	wantVerify(t, "store", api.ErrCodeDepth, 0)
	wantVerify(t, "push 0\nstore", api.ErrCodeDepth, 1)
	wantVerify(t, "push 0\nload", api.ErrCodeTx, 1)
	wantVerify(t, "push 0\npush 0\nstore", api.ErrCodeTx, 2)
}

func TestVerifyTellsTheDepthOfAnyState(t *testing.T) {
	// The load is come to outside with a value, and without one.
	wantVerify(t, lines("push 0", "zero x", "push 1", "jump y", "x:", "begin", "y:", "load", "halt"), api.ErrCodeDepth, 5)
	wantVerify(t, lines("push 0", "zero x", "begin", "jump y", "x:", "push 1", "y:", "load", "halt"), api.ErrCodeDepth, 5)
	wantVerify(t, lines("push 0", "zero x", "jump y", "x:", "push 1", "y:", "load", "halt"), api.ErrCodeDepth, 4)
	wantVerify(t, lines("push 0", "zero y", "push 1", "y:", "load", "halt"), api.ErrCodeDepth, 3)
	// Where each has a value, the transaction is told, and not that they meet.
	wantVerify(t, lines("push 3", "push 0", "zero x", "jump y", "x:", "push 1", "y:", "load", "halt"), api.ErrCodeTx, 5)
	wantVerify(t, lines("push 3", "push 0", "zero x", "begin", "jump y", "x:", "push 1", "y:", "load", "commit", "halt"), api.ErrCodeTx, 6)
	wantVerify(t, lines("push 3", "push 0", "zero x", "push 1", "jump y", "x:", "begin", "y:", "load", "commit", "halt"), api.ErrCodeTx, 6)
}

func TestVerifyOfTheEnd(t *testing.T) {
	wantVerify(t, "begin", api.ErrCodeTx, 1)
	wantVerify(t, "begin\njump 2", api.ErrCodeTx, 2)
	wantVerify(t, "begin\npush 1\nzero 3", api.ErrCodeTx, 3)
	wantVerify(t, "jump 2\nbegin", api.OK, 0)
	wantVerify(t, "begin\nabort 2", api.OK, 0)
	wantVerify(t, "begin\ncommit", api.OK, 0)
	wantVerify(t, "push 1\npush 1", api.OK, 0)
	// Two states there are nothing amiss, if both are outside.
	wantVerify(t, lines("push 0", "zero x", "push 1", "x:"), api.OK, 0)
	wantVerify(t, lines("push 0", "zero x", "push 1", "jump x", "pop", "x:"), api.OK, 0)
	wantVerify(t, lines("push 0", "zero x", "begin", "x:"), api.ErrCodeTx, 3)
	wantVerify(t, lines("push 0", "zero x", "jump y", "x:", "begin", "y:"), api.ErrCodeTx, 4)
	// The last instruction's place is not the end.
	wantVerify(t, lines("push 0", "zero x", "push 1", "x:", "halt"), api.ErrCodeMeet, 3)
	wantVerify(t, lines("push 0", "begin", "zero x", "halt", "x:"), api.ErrCodeTx, 3)
}

func TestVerifyOfStatesThatMeet(t *testing.T) {
	meets := func(at int, l ...string) {
		t.Helper()
		wantVerify(t, lines(l...), api.ErrCodeMeet, at)
	}
	// Another depth.
	meets(3, "push 0", "zero x", "push 1", "x:", "push 2", "halt")
	// Another base, at the same depth.
	meets(7, "push 0", "zero x", "begin", "push 1", "jump y", "x:", "push 1", "begin", "y:", "jump z", "z:", "commit")
	// Inside, and outside.
	meets(5, "push 0", "zero x", "begin", "commit", "begin", "x:", "push 1", "halt")
	// Three of them.
	meets(6, "push 0", "zero x", "push 1", "push 0", "zero x", "push 1", "x:", "push 1", "halt")
	// By a way back, at place 0.
	meets(0, "begin", "commit", "push 1", "jump 0")
	// By an abort: the base is the depth there.
	meets(3, "push 5", "push 0", "zero x", "x:", "begin", "push 1", "abort y", "y:", "pop", "jump x")
}

func TestVerifyOfTheSameStateTwice(t *testing.T) {
	right := func(l ...string) {
		t.Helper()
		wantVerify(t, lines(l...), api.OK, 0)
	}
	right("push 0", "zero x", "push 1", "pop", "x:", "push 2", "halt")
	right("a:", "jump a")
	right("a:", "push 1", "zero a", "jump a")
	right("push 1", "zero 2", "halt")
	right("a:", "begin", "abort a")
	right("a:", "begin", "commit", "jump a")
	// Behind a commit and an abort there is no base any more.
	right("push 0", "zero x", "begin", "push 1", "commit", "jump y", "x:", "push 1", "begin", "commit", "y:", "tell", "halt")
	right("push 5", "push 0", "zero x", "begin", "push 1", "abort y", "x:", "begin", "pop", "abort y", "y:", "tell", "halt")
}

func TestVerifyOfAnAbort(t *testing.T) {
	wantVerify(t, lines("push 7", "begin", "push 1", "abort 4", "tell", "halt"), api.OK, 0)
	wantVerify(t, lines("push 7", "begin", "push 1", "abort 4", "tell", "tell"), api.ErrCodeDepth, 5)
	wantVerify(t, lines("begin", "push 1", "abort 3", "tell"), api.ErrCodeDepth, 3)
	// The depth may be less than the base.
	wantVerify(t, lines("push 7", "begin", "pop", "abort 4", "tell", "halt"), api.OK, 0)
	wantVerify(t, lines("push 7", "begin", "pop", "abort 4", "tell", "tell"), api.ErrCodeDepth, 5)
	// The base is that of the begin that was last.
	second := []string{"push 1", "begin", "commit", "push 2", "begin", "pop", "pop", "abort 8", "tell", "tell"}
	wantVerify(t, lines(second...), api.OK, 0)
	wantVerify(t, lines(append(second, "tell")...), api.ErrCodeDepth, 10)
	// It is left outside, and not at the next place.
	wantVerify(t, lines("begin", "abort 2", "commit"), api.ErrCodeTx, 2)
	wantVerify(t, lines("begin", "abort 3", "pop", "begin", "commit"), api.OK, 0)
	most := strings.Repeat("push 1\n", 32)
	wantVerify(t, most+"begin\npop\nabort 35\npush 1", api.ErrCodeDepth, 35)
	wantVerify(t, most+"begin\npop\npush 1\nabort 36\npop\npush 1", api.OK, 0)
}

func TestVerifyTellsTheLeastPlace(t *testing.T) {
	// It is come to last.
	wantVerify(t, lines("jump 3", "pop", "halt", "push 0", "zero 6", "jump 1", "load"), api.ErrCodeDepth, 1)
	wantVerify(t, lines("jump 3", "pop", "halt", "push 0", "zero 1", "jump 6", "load"), api.ErrCodeDepth, 1)
	wantVerify(t, lines("jump 3", "commit", "halt", "push 0", "zero 1", "jump 6", "pop"), api.ErrCodeTx, 1)
	// Whichever of the three errors it is.
	wantVerify(t, lines("push 1", "zero 3", "push 1", "push 1", "pop", "pop", "halt"), api.ErrCodeMeet, 3)
	wantVerify(t, lines("push 1", "zero 3", "commit", "push 1", "pop", "pop", "halt"), api.ErrCodeTx, 2)
	wantVerify(t, lines("push 0", "zero 4", "push 1", "jump 4", "push 0", "push 0", "jump 4"), api.ErrCodeDepth, 4)
}

func TestVerifyGoesOnWhereStatesMeet(t *testing.T) {
	wantVerify(t, lines("push 1", "jump 0"), api.ErrCodeDepth, 0)
	wantVerify(t, lines("dup", "jump 0"), api.ErrCodeDepth, 0)
	wantVerify(t, lines("push 1", "push 1", "pop", "jump 2"), api.ErrCodeDepth, 2)
	// At place 0 there is nothing but states that meet, at place 2 the depth is too great at last.
	wantVerify(t, lines("jump 1", "jump 2", "push 1", "jump 1"), api.ErrCodeMeet, 1)
	wantVerify(t, lines("jump 2", "halt", "push 1", "jump 2"), api.ErrCodeDepth, 2)
	// The second state comes to the pop at 1, the first one does not.
	wantVerify(t, lines("jump 2", "pop", "push 0", "zero 6", "push 1", "jump 6", "zero 1", "halt"), api.ErrCodeDepth, 1)
}

func TestVerifyOfPlacesThatNoStateComesTo(t *testing.T) {
	wantVerify(t, lines("halt", "pop", "load", "commit", "begin", "begin"), api.OK, 0)
	wantVerify(t, lines("jump 3", "pop", "store", "halt"), api.OK, 0)
	wantVerify(t, lines("jump 0", "begin"), api.OK, 0)
	wantVerify(t, lines("begin", "abort 3", "pop", "halt"), api.OK, 0)
	// Behind what is amiss nothing follows.
	wantVerify(t, lines("jump 3", "pop", "halt", "abort 1"), api.ErrCodeTx, 3)
	wantVerify(t, lines("jump 3", "load", "halt", "zero 1"), api.ErrCodeDepth, 3)
	wantVerify(t, lines("jump 3", "pop", "halt", "begin", "begin", "jump 1"), api.ErrCodeTx, 4)
	wantVerify(t, lines("jump 3", "pop", "halt", "commit", "jump 1"), api.ErrCodeTx, 3)
	wantVerify(t, lines("jump 3", "commit", "halt", "pop", "jump 1"), api.ErrCodeDepth, 3)
	wantVerify(t, lines("jump 3", "pop", "halt", "begin", "halt", "jump 1"), api.ErrCodeTx, 4)
}

func TestVerifyOfAllStatesThatThereCanBe(t *testing.T) {
	text := "a:\npush 1\npush 1\nzero a\nbegin\nb:\npush 1\npush 1\nzero b\nc:\npush 1\nzero d\npop\njump c\nd:\n"
	wantVerify(t, text+strings.Repeat("push 1\npop\n", 194), api.ErrCodeMeet, 0)
	text = "begin\ncommit\njump a\nb:\npop\njump b\na:\npush 1\npush 1\nzero a\nbegin\npush 0\nzero b\n"
	wantVerify(t, text+strings.Repeat("push 1\npop\n", 194)+"commit", api.ErrCodeDepth, 3)
}

func TestVerifyOfTheLongest(t *testing.T) {
	wantVerify(t, strings.Repeat("push 1\npop\n", 200), api.OK, 0)
	wantVerify(t, strings.Repeat("begin\ncommit\n", 199)+"begin\nabort 400", api.OK, 0)
	wantVerify(t, strings.Repeat("begin\ncommit\n", 199)+"push 0\nbegin", api.ErrCodeTx, 400)
	wantVerify(t, strings.Repeat("begin\ncommit\n", 199)+"push 0\nload", api.ErrCodeTx, 399)
}

func TestVerifyIsThePlainOne(t *testing.T) {
	answers := map[api.Errno]int{}
	for _, l := range randomPrograms(30000) {
		e, at := plainVerify(l)
		if gotE, gotAt := code.Verify(l); gotE != e || gotAt != at {
			text, _ := code.Print(l)
			t.Fatalf("%s\n%v %d, want %v %d", text, gotE, gotAt, e, at)
		}
		answers[e]++
	}
	for _, e := range []api.Errno{api.OK, api.ErrCodeDepth, api.ErrCodeTx, api.ErrCodeMeet} {
		if answers[e] < 300 {
			t.Error("too little was looked through", answers)
		}
	}
}

// A program that Verify takes is never in a state in which something is amiss, whichever way its zeros go.
func TestVerifiedProgramsGoRight(t *testing.T) {
	source := rand.New(rand.NewSource(9))
	ran, turned := 0, 0
	for _, l := range randomPrograms(20000) {
		if e, _ := code.Verify(l); e != api.OK {
			continue
		}
		ran++
		place, s := 0, plainState{}
		for range 100 {
			if e := plainAmiss(l, place, s); e != api.OK {
				t.Fatal(l, place, s, e)
			}
			next := plainNext(l, place, s)
			if len(next) == 0 {
				break
			}
			turned += len(next) - 1
			chosen := next[source.Intn(len(next))]
			place, s = chosen.place, chosen.state
		}
	}
	if ran < 1000 || turned < 1000 {
		t.Error("too little was run", ran, turned)
	}
}

// P15.9

func TestVerifyHangsOnNoNumber(t *testing.T) {
	source := rand.New(rand.NewSource(7))
	changed := 0
	for _, l := range randomPrograms(10000) {
		e, at := code.Verify(l)
		for place := range l {
			switch l[place].Op {
			case api.DoPush:
				l[place].A = int(source.Uint64())
				changed++
			case api.DoGet, api.DoSet:
				l[place].A = source.Intn(8)
				changed++
			}
		}
		if gotE, gotAt := code.Verify(l); gotE != e || gotAt != at {
			t.Fatal(l, gotE, gotAt, e, at)
		}
	}
	if changed < 10000 {
		t.Error("too little was changed", changed)
	}
}

// The chapter's examples

func TestExamplesOfVerify(t *testing.T) {
	wantVerify(t, "pop", api.ErrCodeDepth, 0)
	wantVerify(t, "push 1\njump 0", api.ErrCodeDepth, 0)
	wantVerify(t, "begin", api.ErrCodeTx, 1)
	wantVerify(t, "load", api.ErrCodeDepth, 0)
	wantVerify(t, "push 0\nzero 3\npush 1\nhalt", api.ErrCodeMeet, 3)
	wantVerify(t, "push 7\nbegin\npush 1\nabort 4\ntell\nhalt", api.OK, 0)
}
