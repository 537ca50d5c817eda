package policy_test

import (
	"math"
	"math/rand"
	"slices"
	"testing"

	"quash/api"
	"quash/policy"
)

// P9.1

func TestCommitWinsAlways(t *testing.T) {
	for _, bias := range []int{0, 1, 8} {
		for _, deferred := range []int{0, 1, 64} {
			c := config(api.CommitWins, bias, deferred)
			for n := 0; n <= 10; n++ {
				for _, defers := range []int{0, 1, 63, 64, 65, math.MaxInt} {
					wantVerdict(t, c, 5, defers, some(n, 1), api.Win)
					wantVerdict(t, c, 5, defers, some(n, 5), api.Win)
					wantVerdict(t, c, 5, defers, some(n, 9), api.Win)
				}
			}
		}
	}
}

func TestReaderBiasByNumberAndCounter(t *testing.T) {
	for bias := 0; bias <= 8; bias++ {
		for most := 0; most <= 64; most++ {
			c := config(api.ReaderBias, bias, most)
			for n := 0; n <= 10; n++ {
				for defers := 0; defers <= 66; defers++ {
					want := api.Win
					if n > bias && defers < most {
						want = api.Defer
					}
					wantVerdict(t, c, 5, defers, some(n, 5), want)
				}
			}
		}
	}
}

func TestReaderBiasAtTheEdges(t *testing.T) {
	c := config(api.ReaderBias, 3, 2)
	wantVerdict(t, c, 5, 0, some(3, 5), api.Win)
	wantVerdict(t, c, 5, 0, some(4, 5), api.Defer)
	wantVerdict(t, c, 5, 1, some(4, 5), api.Defer)
	wantVerdict(t, c, 5, 2, some(4, 5), api.Win)
	wantVerdict(t, c, 5, 3, some(4, 5), api.Win)
	wantVerdict(t, c, 5, math.MaxInt, some(4, 5), api.Win)
	wantVerdict(t, c, 5, 0, some(1000, 5), api.Defer)
	wantVerdict(t, config(api.ReaderBias, 0, 1), 5, 0, nil, api.Win)
	wantVerdict(t, config(api.ReaderBias, 0, 1), 5, 0, []api.Victim{}, api.Win)
	wantVerdict(t, config(api.ReaderBias, 0, 1), 5, 0, some(1, 5), api.Defer)
	wantVerdict(t, config(api.ReaderBias, 0, 0), 5, 0, some(9, 5), api.Win)
	wantVerdict(t, config(api.ReaderBias, 8, 64), 5, 63, some(8, 5), api.Win)
	wantVerdict(t, config(api.ReaderBias, 8, 64), 5, 63, some(9, 5), api.Defer)
	wantVerdict(t, config(api.ReaderBias, 8, 64), 5, 64, some(9, 5), api.Win)
}

func TestReaderBiasLooksAtNoStamp(t *testing.T) {
	c := config(api.ReaderBias, 1, 2)
	for _, stamp := range numbers() {
		for _, other := range numbers() {
			wantVerdict(t, c, stamp, 0, some(1, other), api.Win)
			wantVerdict(t, c, stamp, 1, some(2, other), api.Defer)
			wantVerdict(t, c, stamp, 2, some(2, other), api.Win)
		}
	}
}

func TestAgingByStamps(t *testing.T) {
	c := config(api.Aging, 0, 0)
	for _, stamp := range numbers() {
		wantVerdict(t, c, stamp, 0, nil, api.Win)
		for _, other := range numbers() {
			want := api.Win
			if other < stamp {
				want = api.Yield
			}
			wantVerdict(t, c, stamp, 0, stamps(other), want)
			wantVerdict(t, c, stamp, 0, stamps(stamp, other), want)
			wantVerdict(t, c, stamp, 0, stamps(other, stamp), want)
			wantVerdict(t, c, stamp, 0, stamps(math.MaxInt, other, math.MaxInt), want)
		}
	}
}

func TestAgingFindsTheOlderOneAnywhere(t *testing.T) {
	c := config(api.Aging, 0, 0)
	for n := 1; n <= 9; n++ {
		for at := range n {
			l := some(n, 20)
			wantVerdict(t, c, 20, 0, l, api.Win)
			l[at].Stamp = 19
			wantVerdict(t, c, 20, 0, l, api.Yield)
			wantVerdict(t, c, 19, 0, l, api.Win)
		}
	}
}

func TestAgingLooksAtNoCounterOrBias(t *testing.T) {
	for _, bias := range []int{0, 1, 8} {
		for _, most := range []int{0, 1, 64} {
			c := config(api.Aging, bias, most)
			for _, defers := range []int{0, 1, 64, math.MaxInt} {
				wantVerdict(t, c, 5, defers, some(9, 5), api.Win)
				wantVerdict(t, c, 5, defers, some(9, 4), api.Yield)
			}
		}
	}
}

func TestVerdictLooksAtNothingButStamps(t *testing.T) {
	for _, n := range numbers() {
		for _, m := range numbers() {
			l := []api.Victim{{Slot: n, Gen: m, Stamp: 7, Thread: n}, {Slot: m, Gen: n, Stamp: 7, Thread: m}}
			wantVerdict(t, config(api.CommitWins, 1, 1), 7, 0, l, api.Win)
			wantVerdict(t, config(api.ReaderBias, 1, 1), 7, 0, l, api.Defer)
			wantVerdict(t, config(api.ReaderBias, 2, 1), 7, 0, l, api.Win)
			wantVerdict(t, config(api.Aging, 0, 0), 7, 0, l, api.Win)
			wantVerdict(t, config(api.Aging, 0, 0), 8, 0, l, api.Yield)
		}
	}
}

func TestVerdictHangsOnNoOtherNumberOfTheConfig(t *testing.T) {
	for _, cells := range []int{1, 256} {
		for _, slots := range []int{1, 8} {
			for _, bits := range []int{1, 128} {
				c := api.Config{Cells: cells, Slots: slots, Bits: bits, Bias: 1, Defer: 1}
				c.Tag = api.CommitWins
				wantVerdict(t, c, 5, 0, some(9, 4), api.Win)
				c.Tag = api.ReaderBias
				wantVerdict(t, c, 5, 0, some(9, 4), api.Defer)
				c.Tag = api.Aging
				wantVerdict(t, c, 5, 0, some(9, 4), api.Yield)
			}
		}
	}
}

func TestVerdictRefusesConfigs(t *testing.T) {
	for _, c := range wrongConfigs() {
		for _, l := range [][]api.Victim{nil, some(9, 1)} {
			for _, defers := range []int{0, 1, -1} {
				wantRefused(t, c, 5, defers, l)
			}
		}
	}
}

func TestVerdictRefusesCounters(t *testing.T) {
	for tag := api.CommitWins; tag <= api.Aging; tag++ {
		for _, defers := range []int{-1, -2, -64, math.MinInt32, math.MinInt} {
			for _, l := range [][]api.Victim{nil, some(9, 1)} {
				wantRefused(t, config(tag, 0, 1), 5, defers, l)
			}
		}
	}
}

func TestVerdictTakesConfigsAtTheEdges(t *testing.T) {
	for _, f := range fields() {
		for _, n := range []int{f.least, f.most} {
			c := config(api.CommitWins, 0, 0)
			*f.of(&c) = n
			wantVerdict(t, c, 5, 0, nil, api.Win)
			if j, e := policy.New(c); j == nil || e != api.OK {
				t.Error(c, j, e)
			}
		}
	}
}

func TestVictimsStayAsTheyWere(t *testing.T) {
	for tag := api.CommitWins; tag <= api.Aging; tag++ {
		c := config(tag, 0, 9)
		whole := stamps(7, 4, 9, 1, 3)
		policy.Verdict(c, 5, 0, whole[:3])
		newJudge(t, c).Decide(5, whole[:3])
		if !slices.Equal(whole, stamps(7, 4, 9, 1, 3)) {
			t.Error(tag, whole)
		}
	}
}

func TestVerdictLooksAtNoSpareRoom(t *testing.T) {
	whole := stamps(7, 6, 1, 1)
	wantVerdict(t, config(api.Aging, 0, 0), 5, 0, whole[:2], api.Win)
	wantVerdict(t, config(api.ReaderBias, 2, 1), 5, 0, whole[:2], api.Win)
}

// P9.2

func TestNewRefuses(t *testing.T) {
	for _, c := range wrongConfigs() {
		if j, e := policy.New(c); j != nil || e != api.ErrArg {
			t.Error(c, j, e)
		}
	}
}

func TestNewBeginsAtNothing(t *testing.T) {
	for tag := api.CommitWins; tag <= api.Aging; tag++ {
		for most := 0; most <= 64; most++ {
			j := newJudge(t, config(tag, 0, most))
			wantJudge(t, j, 0, tag == api.ReaderBias && most == 0)
		}
	}
}

func TestDecideCountsWhatItDefers(t *testing.T) {
	for bias := 0; bias <= 8; bias++ {
		for most := 0; most <= 64; most++ {
			j := newJudge(t, config(api.ReaderBias, bias, most))
			for range 2 {
				for i := range most {
					wantJudge(t, j, i, false)
					wantDecide(t, j, 5, some(bias, 5), api.Win)
					wantJudge(t, j, i, false)
					wantDecide(t, j, 5, some(bias+1, 5), api.Defer)
				}
				for range 3 {
					wantJudge(t, j, most, true)
					wantDecide(t, j, 5, some(bias+1, 5), api.Win)
				}
				j.Reset()
			}
		}
	}
}

func TestDecideCountsNothingElse(t *testing.T) {
	j := newJudge(t, config(api.CommitWins, 0, 2))
	for range 4 {
		wantDecide(t, j, 5, stamps(1, 9), api.Win)
		wantJudge(t, j, 0, false)
	}
	j = newJudge(t, config(api.Aging, 0, 2))
	for range 4 {
		wantDecide(t, j, 5, stamps(1, 9), api.Yield)
		wantJudge(t, j, 0, false)
		wantDecide(t, j, 5, stamps(5, 9), api.Win)
		wantJudge(t, j, 0, false)
	}
}

func TestPromotedUnderReaderBiasAlone(t *testing.T) {
	wantJudge(t, newJudge(t, config(api.CommitWins, 0, 0)), 0, false)
	wantJudge(t, newJudge(t, config(api.ReaderBias, 0, 0)), 0, true)
	wantJudge(t, newJudge(t, config(api.Aging, 0, 0)), 0, false)
}

func TestAskingChangesNothing(t *testing.T) {
	j := newJudge(t, config(api.ReaderBias, 0, 2))
	wantDecide(t, j, 5, some(1, 5), api.Defer)
	for range 4 {
		wantJudge(t, j, 1, false)
		wantVerdict(t, config(api.ReaderBias, 0, 2), 5, 0, some(1, 5), api.Defer)
	}
	wantDecide(t, j, 5, some(1, 5), api.Defer)
	for range 4 {
		wantJudge(t, j, 2, true)
	}
	wantDecide(t, j, 5, some(1, 5), api.Win)
}

func TestReset(t *testing.T) {
	j := newJudge(t, config(api.ReaderBias, 0, 3))
	j.Reset()
	wantJudge(t, j, 0, false)
	wantDecide(t, j, 5, some(1, 5), api.Defer)
	wantDecide(t, j, 5, some(1, 5), api.Defer)
	j.Reset()
	j.Reset()
	wantJudge(t, j, 0, false)
	for i := range 3 {
		wantDecide(t, j, 5, some(1, 5), api.Defer)
		wantJudge(t, j, i+1, i == 2)
	}
	wantDecide(t, j, 5, some(1, 5), api.Win)
}

func TestJudgeKeepsNoVictims(t *testing.T) {
	j := newJudge(t, config(api.Aging, 0, 0))
	l := stamps(7, 6)
	wantDecide(t, j, 5, l, api.Win)
	l[1].Stamp = 4
	wantDecide(t, j, 5, l, api.Yield)
	wantDecide(t, j, 5, nil, api.Win)
}

func TestJudgesHaveNothingInCommon(t *testing.T) {
	c := config(api.ReaderBias, 0, 2)
	one, other := newJudge(t, c), newJudge(t, c)
	wantDecide(t, one, 5, some(1, 5), api.Defer)
	wantDecide(t, one, 5, some(1, 5), api.Defer)
	wantJudge(t, one, 2, true)
	wantJudge(t, other, 0, false)
	wantDecide(t, other, 5, some(1, 5), api.Defer)
	one.Reset()
	wantJudge(t, one, 0, false)
	wantJudge(t, other, 1, false)
}

func TestMixedCallsAgainstAPlainJudge(t *testing.T) {
	rnd := rand.New(rand.NewSource(9))
	for range 400 {
		c := config(1+rnd.Intn(3), rnd.Intn(4), rnd.Intn(5))
		j, defers := newJudge(t, c), 0
		for range 60 {
			if rnd.Intn(12) == 0 {
				j.Reset()
				defers = 0
			} else {
				stamp, l := rnd.Intn(8), randomVictims(rnd)
				v := plainVerdict(c, stamp, defers, l)
				wantVerdict(t, c, stamp, defers, l, v)
				wantDecide(t, j, stamp, l, v)
				if v == api.Defer {
					defers++
				}
			}
			wantJudge(t, j, defers, c.Tag == api.ReaderBias && defers >= c.Defer)
		}
	}
}

// P9.3

func TestReaderBiasDefersSoOftenAtMost(t *testing.T) {
	for most := 0; most <= 64; most++ {
		j := newJudge(t, config(api.ReaderBias, 1, most))
		for range 3 {
			deferred := 0
			for i := range 200 {
				promoted := j.Promoted()
				v := j.Decide(5, some(i%4, 5))
				if promoted && v != api.Win {
					t.Error(most, i, v)
				}
				if v == api.Defer {
					deferred++
				}
			}
			if deferred != most {
				t.Error("deferred", deferred, "want", most)
			}
			j.Reset()
		}
	}
}

func TestAgingTheOldestWins(t *testing.T) {
	rnd := rand.New(rand.NewSource(3))
	c := config(api.Aging, 0, 0)
	for range 500 {
		all := rnd.Perm(8)
		for _, stamp := range all {
			others := slices.DeleteFunc(slices.Clone(all), func(n int) bool { return n == stamp })
			want := api.Yield
			if stamp == 0 {
				want = api.Win
			}
			wantVerdict(t, c, stamp, 0, stamps(others...), want)
		}
	}
}

func TestAgingOfTwoOneAtMostYields(t *testing.T) {
	c := config(api.Aging, 0, 0)
	for _, a := range numbers() {
		for _, b := range numbers() {
			one, _ := policy.Verdict(c, a, 0, stamps(b))
			other, _ := policy.Verdict(c, b, 0, stamps(a))
			if (one == api.Yield) != (a > b) || (other == api.Yield) != (b > a) {
				t.Error(a, b, one, other)
			}
		}
	}
}

// The chapter's examples

func TestExampleReaderBias(t *testing.T) {
	j := newJudge(t, config(api.ReaderBias, 1, 2))
	wantDecide(t, j, 5, some(2, 7), api.Defer)
	wantDecide(t, j, 5, some(2, 7), api.Defer)
	wantDecide(t, j, 5, some(2, 7), api.Win)
	wantJudge(t, j, 2, true)
	j.Reset()
	wantDecide(t, j, 5, some(1, 7), api.Win)
	wantDecide(t, j, 5, some(2, 7), api.Defer)
}

func TestExampleAgingAndCommitWins(t *testing.T) {
	c := config(api.Aging, 0, 0)
	wantVerdict(t, c, 5, 0, stamps(7, 5), api.Win)
	wantVerdict(t, c, 5, 0, stamps(7, 4), api.Yield)
	wantVerdict(t, c, 5, 0, nil, api.Win)
	wantRefused(t, c, 5, -1, nil)
	c.Tag = api.CommitWins
	wantVerdict(t, c, 5, 0, stamps(7, 4), api.Win)
	wantRefused(t, c, 5, -1, nil)
}

// Help

func config(tag, bias, most int) api.Config {
	return api.Config{Cells: 2, Slots: 1, Bits: 8, Tag: tag, Bias: bias, Defer: most}
}

func numbers() []int {
	return []int{0, 1, 2, 5, -1, math.MinInt, math.MinInt + 1, math.MaxInt, math.MaxInt - 1, math.MinInt32, math.MaxInt32, 1 << 32}
}

// some are n victims of one stamp.
func some(n, stamp int) []api.Victim {
	l := make([]api.Victim, n)
	for i := range l {
		l[i] = api.Victim{Slot: i, Gen: 2, Stamp: stamp, Thread: i + 1}
	}
	return l
}

func stamps(l ...int) []api.Victim {
	var out []api.Victim
	for i, n := range l {
		out = append(out, api.Victim{Slot: i, Gen: 1, Stamp: n, Thread: i + 1})
	}
	return out
}

func randomVictims(rnd *rand.Rand) []api.Victim {
	l := some(rnd.Intn(5), 0)
	for i := range l {
		l[i].Stamp = rnd.Intn(10)
	}
	return l
}

func plainVerdict(c api.Config, stamp, defers int, l []api.Victim) int {
	switch c.Tag {
	case api.ReaderBias:
		if len(l) > c.Bias && defers < c.Defer {
			return api.Defer
		}
	case api.Aging:
		for _, v := range l {
			if v.Stamp < stamp {
				return api.Yield
			}
		}
	}
	return api.Win
}

type field struct {
	name        string
	least, most int
	of          func(*api.Config) *int
}

func fields() []field {
	return []field{
		{"cells", 1, 256, func(c *api.Config) *int { return &c.Cells }},
		{"slots", 1, 8, func(c *api.Config) *int { return &c.Slots }},
		{"bits", 1, 128, func(c *api.Config) *int { return &c.Bits }},
		{"bias", 0, 8, func(c *api.Config) *int { return &c.Bias }},
		{"defer", 0, 64, func(c *api.Config) *int { return &c.Defer }},
	}
}

// wrongConfigs have one number, or all of them, that may not be.
func wrongConfigs() []api.Config {
	l := []api.Config{{}}
	for _, tag := range []int{0, 4, -1, math.MinInt, math.MaxInt, 1 << 32} {
		l = append(l, config(tag, 0, 1))
	}
	for tag := api.CommitWins; tag <= api.Aging; tag++ {
		for _, f := range fields() {
			for _, n := range []int{f.least - 1, f.most + 1, -1, math.MinInt, math.MaxInt, 1 << 32} {
				c := config(tag, 0, 1)
				*f.of(&c) = n
				l = append(l, c)
			}
		}
	}
	return l
}

func newJudge(t *testing.T, c api.Config) *policy.Judge {
	t.Helper()
	j, e := policy.New(c)
	if j == nil || e != api.OK {
		t.Fatal(c, j, e)
	}
	return j
}

func wantVerdict(t *testing.T, c api.Config, stamp, defers int, l []api.Victim, want int) {
	t.Helper()
	if v, e := policy.Verdict(c, stamp, defers, l); v != want || e != api.OK {
		t.Error(c, stamp, defers, l, "verdict", v, e, "want", want)
	}
}

func wantRefused(t *testing.T, c api.Config, stamp, defers int, l []api.Victim) {
	t.Helper()
	if v, e := policy.Verdict(c, stamp, defers, l); v != 0 || e != api.ErrArg {
		t.Error(c, stamp, defers, l, "verdict", v, e, "want", api.ErrArg)
	}
}

func wantDecide(t *testing.T, j *policy.Judge, stamp int, l []api.Victim, want int) {
	t.Helper()
	if v := j.Decide(stamp, l); v != want {
		t.Error(stamp, l, "decide", v, "want", want)
	}
}

func wantJudge(t *testing.T, j *policy.Judge, defers int, promoted bool) {
	t.Helper()
	if j.Defers() != defers || j.Promoted() != promoted {
		t.Error("defers", j.Defers(), "promoted", j.Promoted(), "want", defers, promoted)
	}
}
