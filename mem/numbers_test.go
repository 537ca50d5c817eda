package mem_test

import (
	"testing"

	"quash/api"
)

// The numbers that the document gives to names of package api: a layer that is built on others would answer others.

func TestLimits(t *testing.T) {
	for i, c := range [][2]int{
		{api.MaxCells, 256}, {api.MaxLive, 8}, {api.MaxThreads, 8}, {api.SigWords, 2}, {api.MaxBits, 128},
		{api.MaxWrites, 16}, {api.MaxBias, 8}, {api.MaxDefer, 64}, {api.GateSlack, 4}, {api.MaxPicks, 65536},
		{api.MaxRow, 4096}, {api.MaxStack, 256}, {api.MaxCode, 400}, {api.MaxDepth, 32}, {api.MaxLocals, 8},
		{api.MaxText, 65536}, {api.MaxLabel, 16}, {api.MaxAccounts, 64}, {api.MaxNodes, 60}, {api.MaxPairs, 60},
		{api.MaxRing, 100}, {api.MaxPay, 1 << 31}, {api.MaxTried, 7}, {api.MaxScript, 1048576},
	} {
		if c[0] != c[1] {
			t.Errorf("limit %d: got %d, want %d", i, c[0], c[1])
		}
	}
}

func wantRising(t *testing.T, what string, first api.Errno, got ...api.Errno) {
	t.Helper()
	for i, e := range got {
		if e != first+api.Errno(i) {
			t.Errorf("%s: error %d of them is %d", what, i, int(e))
		}
	}
}

func TestErrors(t *testing.T) {
	wantRising(t, "all", 0, api.OK, api.ErrArg, api.ErrPlace, api.ErrMany, api.ErrState, api.ErrHeld, api.ErrSlots,
		api.ErrDoomed, api.ErrYield, api.ErrDefer, api.ErrWrites, api.ErrFull, api.ErrEmpty)
	wantRising(t, "code", 150, api.ErrCodeLong, api.ErrCodeOp, api.ErrCodeArg, api.ErrCodeLine, api.ErrCodeName,
		api.ErrCodeDepth, api.ErrCodeTx, api.ErrCodeMeet)
	wantRising(t, "prog", 160, api.ErrProgStack, api.ErrProgTwice, api.ErrProgNone, api.ErrProgCell,
		api.ErrProgOpen, api.ErrProgAbort)
	wantRising(t, "bank", 170, api.ErrBankArg, api.ErrBankForm)
	wantRising(t, "set", 180, api.ErrSetArg, api.ErrSetForm)
	wantRising(t, "dict", 190, api.ErrDictArg, api.ErrDictForm)
	wantRising(t, "deque", 200, api.ErrDequeArg, api.ErrDequeForm)
	wantRising(t, "ghost", 210, api.ErrGhostForm)
	wantRising(t, "opaque", 220, api.ErrOpaqueOrder, api.ErrOpaqueTime, api.ErrOpaqueRead, api.ErrOpaqueMany)
	wantRising(t, "script", 230, api.ErrScriptStart, api.ErrScriptThreads, api.ErrScriptPicks, api.ErrScriptLine,
		api.ErrScriptLong)
}

func TestErrorTellsTheNumber(t *testing.T) {
	var e error = api.ErrScriptLong
	if e.Error() != "quash: error 234" {
		t.Error(e.Error())
	}
}

func TestNumbersOfKinds(t *testing.T) {
	for i, kinds := range [][]int{
		{api.OnNothing, api.OnCell, api.OnGate, api.OnHead, api.OnWord},
		{api.OpNone, api.OpLoad, api.OpStore, api.OpTrade},
		{api.NoTag, api.CommitWins, api.ReaderBias, api.Aging},
		{api.NoVerdict, api.Win, api.Defer, api.Yield},
		{api.OfNothing, api.OfBegin, api.OfRead, api.OfWrite, api.OfCommit, api.OfAbort},
		{api.NoEvent, api.EventBegin, api.EventRead, api.EventWrite, api.EventCommit, api.EventAbort, api.EventSlots},
		{api.Free, api.Held, api.Live},
		{api.PhaseIdle, api.PhaseBegin, api.PhaseActive, api.PhaseRead, api.PhaseCommit, api.PhaseAbort},
		{api.None, api.Ran, api.Wait, api.Idle, api.Ended},
	} {
		for want, got := range kinds {
			if got != want {
				t.Errorf("kinds %d: got %d, want %d", i, got, want)
			}
		}
	}
}
