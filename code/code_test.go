package code_test

import (
	"math"
	"slices"
	"testing"

	"quash/api"
	"quash/code"
)

// P15.1

func TestNameAndTakesAreTheTables(t *testing.T) {
	for i, r := range chapter() {
		if int(r.op) != i+1 {
			t.Fatal(r)
		}
		if code.Name(r.op) != r.word || code.Takes(r.op) != r.takes {
			t.Error(r, code.Name(r.op), code.Takes(r.op))
		}
	}
}

func TestNameAndTakesOfNoInstruction(t *testing.T) {
	for _, op := range noOps() {
		if code.Name(op) != "" || code.Takes(op) != api.TakesNone {
			t.Error(op, code.Name(op), code.Takes(op))
		}
	}
}

// P15.2

func TestCheckOfTooFewAndTooMany(t *testing.T) {
	wantCheck(t, nil, api.ErrCodeLong, 0)
	wantCheck(t, []api.Instr{}, api.ErrCodeLong, 0)
	wantCheck(t, many(1, in(api.DoHalt, 0)), api.OK, 0)
	wantCheck(t, many(399, in(api.DoHalt, 0)), api.OK, 0)
	wantCheck(t, many(400, in(api.DoHalt, 0)), api.OK, 0)
	wantCheck(t, many(401, in(api.DoHalt, 0)), api.ErrCodeLong, 0)
	wantCheck(t, many(4000, in(api.DoHalt, 0)), api.ErrCodeLong, 0)
	// That there are too many is said ahead of what is wrong in them.
	wantCheck(t, many(401, in(23, 0)), api.ErrCodeLong, 0)
	wantCheck(t, many(401, in(api.DoGet, 8)), api.ErrCodeLong, 0)
	wantCheck(t, many(400, in(23, 0)), api.ErrCodeOp, 0)
}

func TestCheckOfNoInstruction(t *testing.T) {
	for _, op := range noOps() {
		wantCheck(t, list(in(op, 0)), api.ErrCodeOp, 0)
		wantCheck(t, list(in(api.DoHalt, 0), in(api.DoPush, 5), in(op, 7)), api.ErrCodeOp, 2)
	}
}

func TestCheckOfOperands(t *testing.T) {
	numbers := []int{math.MinInt, -1 << 32, -400, -2, -1, 0, 1, 2, 3, 4, 5, 6, 7, 8, 9, 10, 399, 400, 401, 1 << 32, 1<<32 + 1, math.MaxInt}
	for _, r := range chapter() {
		for _, a := range numbers {
			for _, length := range []int{1, 2, 7, 8, 9, 400} {
				right := a == 0
				switch r.takes {
				case api.TakesNumber:
					right = true
				case api.TakesLocal:
					right = 0 <= a && a <= 7
				case api.TakesPlace:
					right = 0 <= a && a <= length
				}
				l := many(length, in(api.DoHalt, 0))
				at := length / 2
				l[at] = in(r.op, a)
				if right {
					wantCheck(t, l, api.OK, 0)
				} else {
					wantCheck(t, l, api.ErrCodeArg, at)
				}
			}
		}
	}
}

func TestCheckTellsTheFirst(t *testing.T) {
	noOp, noArg, right := in(23, 0), in(api.DoGet, 8), in(api.DoDup, 0)
	wantCheck(t, list(right, noOp, noArg), api.ErrCodeOp, 1)
	wantCheck(t, list(right, noArg, noOp), api.ErrCodeArg, 1)
	wantCheck(t, list(noArg, noArg, noOp), api.ErrCodeArg, 0)
	wantCheck(t, list(right, right, right, noOp), api.ErrCodeOp, 3)
	// An Op that is none takes no operand either.
	wantCheck(t, list(right, in(23, 5)), api.ErrCodeOp, 1)
	last := many(400, right)
	last[399] = in(api.DoSet, -1)
	wantCheck(t, last, api.ErrCodeArg, 399)
}

// P15.6

func TestJoinMovesPlacesAlone(t *testing.T) {
	for _, r := range chapter() {
		for a := range 2 {
			if r.takes == api.TakesNone && a > 0 {
				continue
			}
			moved := in(r.op, a)
			if r.takes == api.TakesPlace {
				moved.A += 3
			}
			ahead := list(in(api.DoPush, 9), in(api.DoSet, 7), in(api.DoHalt, 0))
			wantJoin(t, append(slices.Clone(ahead), moved), ahead, list(in(r.op, a)))
			wantJoin(t, append(slices.Clone(ahead), moved), ahead[:1], ahead[1:], list(in(r.op, a)))
			wantJoin(t, append(list(in(r.op, a)), ahead...), list(in(r.op, a)), ahead)
		}
	}
}

func TestJoinOfManyParts(t *testing.T) {
	one := list(in(api.DoJump, 0), in(api.DoAbort, 1), in(api.DoZero, 2), in(api.DoPush, 1))
	want := list()
	parts := [][]api.Instr{}
	for n := range 100 {
		want = append(want, in(api.DoJump, 4*n), in(api.DoAbort, 4*n+1), in(api.DoZero, 4*n+2), in(api.DoPush, 1))
		parts = append(parts, one)
		wantJoin(t, want, parts...)
	}
	wantNoJoin(t, api.ErrCodeLong, append(parts, list(in(api.DoHalt, 0)))...)
}

func TestJoinMovesAnEndOntoTheNextPart(t *testing.T) {
	ends := list(in(api.DoJump, 1))
	wantJoin(t, list(in(api.DoJump, 1), in(api.DoJump, 2), in(api.DoJump, 3)), ends, ends, ends)
}

func TestJoinRefuses(t *testing.T) {
	halt := list(in(api.DoHalt, 0))
	noOp, noArg, far := list(in(0, 0)), list(in(api.DoPop, 1)), list(in(api.DoJump, 2))
	long := many(401, in(api.DoHalt, 0))
	wantNoJoin(t, api.ErrCodeLong)
	wantNoJoin(t, api.ErrCodeLong, nil)
	wantNoJoin(t, api.ErrCodeLong, []api.Instr{})
	wantNoJoin(t, api.ErrCodeLong, halt, nil)
	wantNoJoin(t, api.ErrCodeLong, nil, halt)
	wantNoJoin(t, api.ErrCodeLong, halt, nil, noOp)
	wantNoJoin(t, api.ErrCodeLong, long)
	wantNoJoin(t, api.ErrCodeOp, halt, noOp, noArg)
	wantNoJoin(t, api.ErrCodeArg, halt, noArg, noOp)
	wantNoJoin(t, api.ErrCodeArg, noArg, nil)
	wantNoJoin(t, api.ErrCodeOp, noOp, long)
	wantNoJoin(t, api.ErrCodeLong, long, noOp)
	// A part is asked by itself: another one behind it makes its end no farther.
	wantNoJoin(t, api.ErrCodeArg, far, halt)
	wantNoJoin(t, api.ErrCodeArg, halt, far)
	wantNoJoin(t, api.ErrCodeArg, halt, halt, far, halt)
}

func TestJoinOfTooManyTogether(t *testing.T) {
	half := many(200, in(api.DoHalt, 0))
	one := list(in(api.DoHalt, 0))
	wantJoin(t, many(400, in(api.DoHalt, 0)), half, half)
	wantNoJoin(t, api.ErrCodeLong, half, half, one)
	wantNoJoin(t, api.ErrCodeLong, one, half, half)
	wantNoJoin(t, api.ErrCodeLong, many(400, in(api.DoHalt, 0)), one)
	// What Check refuses is said ahead of that, wherever it stands.
	wantNoJoin(t, api.ErrCodeOp, half, half, half, list(in(23, 0)))
	wantNoJoin(t, api.ErrCodeArg, half, half, one, list(in(api.DoSet, 8)))
	wantNoJoin(t, api.ErrCodeArg, list(in(api.DoSet, 8)), half, half, half)
}

// P15.7

// withRoom has the same instructions, and spare room behind them that is written upon.
func withRoom(l []api.Instr) []api.Instr {
	wide := append(slices.Clone(l), many(8, in(99, 99))...)
	return wide[:len(l)]
}

func TestNothingThatIsHandedInIsChanged(t *testing.T) {
	for _, l := range [][]api.Instr{
		nil,
		list(in(api.DoPush, 5), in(api.DoZero, 0), in(api.DoJump, 3)),
		list(in(api.DoBegin, 0), in(api.DoAbort, 2)),
		list(in(api.DoPush, 5), in(23, 0)),
		many(401, in(api.DoJump, 1)),
		many(400, in(api.DoJump, 1)),
	} {
		a, b := withRoom(l), withRoom(l)
		wantA, wantB := slices.Clone(a[:cap(a)]), slices.Clone(b[:cap(b)])
		code.Check(a)
		code.Verify(a)
		code.Print(a)
		code.Join(a)
		parts := [][]api.Instr{a, b, a}
		code.Join(parts...)
		if !slices.Equal(a[:cap(a)], wantA) || !slices.Equal(b[:cap(b)], wantB) {
			t.Error(l, a[:cap(a)], b[:cap(b)])
		}
		if len(parts) != 3 || len(parts[0]) != len(l) || len(l) > 0 && &parts[1][0] != &b[0] {
			t.Error("parts", l)
		}
	}
}

func TestListsThatAreAnsweredAreNew(t *testing.T) {
	part := list(in(api.DoPush, 5), in(api.DoJump, 0))
	first, _ := code.Join(part)
	again, _ := code.Join(part)
	first[0], again[1] = in(1, 6), in(2, 0)
	part[1] = in(api.DoHalt, 0)
	if !slices.Equal(first, list(in(1, 6), in(api.DoJump, 0))) || !slices.Equal(again, list(in(api.DoPush, 5), in(2, 0))) || part[0] != in(api.DoPush, 5) {
		t.Error(first, again, part)
	}
	const text = "push 5\njump 0"
	l, other := program(t, text), program(t, text)
	l[0] = in(api.DoHalt, 0)
	if other[0] != in(api.DoPush, 5) {
		t.Error(other)
	}
	wantParse(t, text, list(in(api.DoPush, 5), in(api.DoJump, 0)))
	_ = append(other[:1], in(api.DoDup, 0))
	wantParse(t, text, list(in(api.DoPush, 5), in(api.DoJump, 0)))
}

func TestNothingIsKept(t *testing.T) {
	wantFault(t, "a:\na:", api.ErrCodeName, 2)
	wantFault(t, "jump a", api.ErrCodeName, 1)
	wantParse(t, "a:\njump a", list(in(api.DoJump, 0)))
	wantParse(t, "a:\njump a", list(in(api.DoJump, 0)))
	wantFault(t, "jump a", api.ErrCodeName, 1)
	for range 3 {
		wantVerify(t, "push 1\njump 0", api.ErrCodeDepth, 0)
		wantVerify(t, "halt", api.OK, 0)
		wantJoin(t, list(in(api.DoJump, 1)), list(in(api.DoJump, 1)))
	}
}

// P15.9

func TestJoinOfOnePart(t *testing.T) {
	for _, l := range randomPrograms(400) {
		wantJoin(t, l, l)
	}
}

func TestJoinOfAJoin(t *testing.T) {
	rest := randomPrograms(900)
	joined := 0
	for len(rest) >= 3 {
		a, b, c := rest[0], rest[1], rest[2]
		rest = rest[3:]
		all, e := code.Join(a, b, c)
		if len(a)+len(b)+len(c) > 400 {
			if e != api.ErrCodeLong {
				t.Error(e)
			}
			continue
		}
		joined++
		left, _ := code.Join(a, b)
		right, _ := code.Join(b, c)
		wantJoin(t, all, left, c)
		wantJoin(t, all, a, right)
		wantJoin(t, all, all)
		wantCheck(t, all, api.OK, 0)
	}
	if joined < 100 {
		t.Error("too little was joined", joined)
	}
}

// The chapter's examples

func TestExamplesOfTheTable(t *testing.T) {
	if code.Name(api.DoPush) != "push" || code.Name(0) != "" || code.Name(23) != "" {
		t.Error("names")
	}
	if code.Takes(api.DoGet) != 2 || code.Takes(api.DoZero) != 3 || code.Takes(99) != 0 {
		t.Error("takes")
	}
	wantCheck(t, nil, api.ErrCodeLong, 0)
	wantCheck(t, list(in(api.DoPush, 1)), api.OK, 0)
	wantCheck(t, list(in(api.DoGet, 8)), api.ErrCodeArg, 0)
	wantCheck(t, list(in(api.DoJump, 2)), api.ErrCodeArg, 0)
	wantCheck(t, list(in(api.DoJump, 1)), api.OK, 0)
	wantCheck(t, list(in(api.DoPop, 1)), api.ErrCodeArg, 0)
	wantCheck(t, list(in(23, 0)), api.ErrCodeOp, 0)
	wantJoin(t, list(in(api.DoJump, 1), in(api.DoHalt, 0), in(api.DoZero, 2)), list(in(api.DoJump, 1), in(api.DoHalt, 0)), list(in(api.DoZero, 0)))
}
