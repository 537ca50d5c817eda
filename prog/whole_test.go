package prog_test

import (
	"math/rand"
	"slices"
	"strconv"
	"testing"

	"quash/api"
	"quash/code"
	"quash/prog"
	"quash/space"
)

// party is programs of one space, thread i + 1 does the program i.
type party struct {
	s     *space.Space
	lists [][]api.Instr
	progs []*prog.Prog
}

func newParty(t *testing.T, s *space.Space, lists ...[]api.Instr) *party {
	t.Helper()
	p := &party{s: s, lists: lists}
	for i, l := range lists {
		x, e := prog.New(s, i+1, l)
		if e != api.OK {
			t.Fatal(l, e)
		}
		p.progs = append(p.progs, x)
	}
	return p
}

func (p *party) step(i int) int {
	p.s.Turn(i + 1)
	return p.progs[i].Step()
}

// drain goes round till all have ended: did they?
func (p *party) drain() bool {
	for range mostSteps {
		open := false
		for i, x := range p.progs {
			if !x.Done() {
				p.step(i)
				open = true
			}
		}
		if !open {
			return true
		}
	}
	return false
}

// P16.7

func TestVerifiedProgramsGoWrongByNothingOfTheirOwn(t *testing.T) {
	rnd := rand.New(rand.NewSource(167))
	ends, taken, refused := map[api.Errno]int{}, 0, map[api.Errno]int{}
	for range 3000 {
		c := anyConfig(rnd)
		var lists [][]api.Instr
		for range 1 + rnd.Intn(4) {
			lists = append(lists, anyProgram(rnd, c.Cells))
		}
		p := newParty(t, newSpace(t, c), lists...)
		for _, i := range anyTurns(rnd, len(lists), 80) {
			p.step(i)
		}
		for i, x := range p.progs {
			e, _ := code.Verify(lists[i])
			own := slices.Contains([]api.Errno{api.ErrProgStack, api.ErrProgTwice, api.ErrProgNone, api.ErrProgOpen}, x.State().E)
			switch {
			case e != api.OK && own:
				refused[x.State().E]++
			case e == api.OK && own:
				text, _ := code.Print(lists[i])
				t.Fatal(text, x.State())
			case e == api.OK:
				taken++
				ends[x.State().E]++
			}
		}
	}
	if taken < 2000 || ends[api.ErrProgCell] < 20 || ends[api.ErrWrites] < 20 || len(refused) != 4 {
		t.Error("too little was played", taken, ends, refused)
	}
}

// P16.8

// bare runs a program over cells as if there were no transactions but for an abort, which puts everything back.
type bare struct {
	cells  []int64
	told   []int64
	stack  []int64
	locals [8]int64
	e      api.Errno
}

// kept is how it was at a begin, and which cells were written since.
type kept struct {
	cells, told, stack []int64
	locals             [8]int64
	writes             map[int64]bool
}

func (b *bare) keep() *kept {
	return &kept{slices.Clone(b.cells), slices.Clone(b.told), slices.Clone(b.stack), b.locals, map[int64]bool{}}
}

func (b *bare) put(k *kept) {
	b.cells, b.told, b.stack, b.locals = k.cells, k.told, k.stack, k.locals
}

// run tells whether it has ended within so many instructions.
func (b *bare) run(l []api.Instr) bool {
	var k *kept // nil: it is outside
	place := 0
	for range 1500 {
		in := api.Instr{Op: api.DoHalt}
		if place < len(l) {
			in = l[place]
		}
		place++
		if b.e = b.wrong(in.Op, k); b.e != api.OK {
			if k != nil {
				b.cells, b.told = k.cells, k.told
			}
			return true
		}
		n := len(b.stack)
		switch in.Op {
		case api.DoHalt:
			return true
		case api.DoJump:
			place = in.A
		case api.DoZero:
			if b.stack[n-1] == 0 {
				place = in.A
			}
			b.stack = b.stack[:n-1]
		case api.DoBegin:
			k = b.keep()
		case api.DoCommit:
			k = nil
		case api.DoAbort:
			b.put(k)
			k, place = nil, in.A
		case api.DoLoad:
			b.stack[n-1] = b.cells[b.stack[n-1]]
		case api.DoStore:
			b.cells[b.stack[n-2]] = b.stack[n-1]
			k.writes[b.stack[n-2]] = true
			b.stack = b.stack[:n-2]
		case api.DoTell:
			b.told = append(b.told, b.stack[n-1])
			b.stack = b.stack[:n-1]
		default:
			p := &plain{l: []api.Instr{in}, state: api.ProgState{Stack: b.stack, Locals: b.locals}}
			p.plainly()
			b.stack, b.locals = p.state.Stack, p.state.Locals
		}
	}
	return false
}

func (b *bare) wrong(op api.Op, k *kept) api.Errno {
	n := len(b.stack)
	pops := []int{0, 0, 1, 1, 2, 0, 1, 2, 2, 2, 2, 2, 2, 1, 0, 1, 0, 1, 2, 0, 0, 1, 0}[op]
	needs := op == api.DoLoad || op == api.DoStore || op == api.DoCommit || op == api.DoAbort
	switch {
	case n < pops || n == 32 && (op == api.DoPush || op == api.DoGet || op == api.DoDup):
		return api.ErrProgStack
	case op == api.DoBegin && k != nil:
		return api.ErrProgTwice
	case op == api.DoHalt && k != nil:
		return api.ErrProgOpen
	case needs && k == nil:
		return api.ErrProgNone
	case op != api.DoLoad && op != api.DoStore:
		return api.OK
	}
	cell := b.stack[n-pops]
	switch {
	case cell < 0 || cell >= int64(len(b.cells)):
		return api.ErrProgCell
	case op == api.DoStore && len(k.writes) == 16 && !k.writes[cell]:
		return api.ErrWrites
	}
	return api.OK
}

func TestAProgramAlone(t *testing.T) {
	rnd := rand.New(rand.NewSource(168))
	ends := map[api.Errno]int{}
	told := 0
	for range 4000 {
		c := anyConfig(rnd)
		start := make([]int64, c.Cells)
		for i := range start {
			start[i] = int64(rnd.Intn(9) - 2)
		}
		l := wildProgram(rnd, c.Cells)
		b := &bare{cells: slices.Clone(start)}
		if !b.run(l) {
			continue
		}
		s := newSpace(t, c, start...)
		p := newParty(t, s, l)
		steps := 0
		for ; !p.progs[0].Done() && steps < 60000; steps++ {
			if a := p.step(0); a != api.Ran || p.progs[0].State().Tries != 0 {
				t.Fatal(a, p.progs[0].State())
			}
		}
		x := p.progs[0].State()
		if !x.Done || x.E != b.e || !slices.Equal(x.Told, b.told) || !slices.Equal(s.View().Cells, b.cells) {
			text, _ := code.Print(l)
			t.Fatal(text, x, s.View().Cells, "want", b)
		}
		if s.Most() > 1 || s.View().Gate.Owner != 0 {
			t.Fatal(s.Most(), s.View())
		}
		ends[x.E]++
		told += len(x.Told)
	}
	for _, e := range []api.Errno{api.OK, api.ErrProgStack, api.ErrProgTwice, api.ErrProgNone, api.ErrProgCell, api.ErrProgOpen, api.ErrWrites} {
		if ends[e] < 30 {
			t.Error("too little was played", e, ends)
		}
	}
	if told < 1500 {
		t.Error("too little was told", told)
	}
}

// P16.9

// tale is what an attempt read, and how it ended.
type tale struct {
	reads   []int64
	commits bool
	aborts  bool // by its program's instruction
	fails   bool // it begins anew
}

// tales are those of a thread, out of events.
func tales(l []api.Event, thread int) []tale {
	var all []tale
	for _, e := range l {
		if e.Thread != thread {
			continue
		}
		switch e.Kind {
		case api.EventBegin:
			all = append(all, tale{})
		case api.EventRead:
			all[len(all)-1].reads = append(all[len(all)-1].reads, e.X)
		case api.EventCommit:
			all[len(all)-1].commits = true
		case api.EventAbort:
			all[len(all)-1].aborts = e.E == api.ErrProgAbort
			all[len(all)-1].fails = e.E == api.ErrDoomed || e.E == api.ErrYield || e.E == api.ErrDefer
		}
	}
	return slices.DeleteFunc(all, func(x tale) bool { return x.fails })
}

// retold is what a program tells, if attempts that failed had never been, and loads tell what the others read.
func retold(t *testing.T, l []api.Instr, attempts []tale) []int64 {
	t.Helper()
	p := &plain{l: l}
	x := &p.state
	var now tale
	for range 20000 {
		if x.Done {
			return x.Told
		}
		n, in := len(x.Stack), p.now()
		switch in.Op {
		case api.DoBegin:
			if x.Inside || len(attempts) == 0 {
				return x.Told
			}
			p.saved = *x
			p.saved.Stack = slices.Clone(x.Stack)
			x.Inside, now, attempts = true, attempts[0], attempts[1:]
			x.Place++
		case api.DoLoad:
			if len(now.reads) == 0 {
				return x.Told
			}
			x.Stack = append(x.Stack[:n-1:n-1], now.reads[0])
			now.reads = now.reads[1:]
			x.Place++
		case api.DoStore:
			x.Stack = x.Stack[:max(0, n-2)]
			x.Place++
		case api.DoCommit:
			if !now.commits {
				return x.Told
			}
			x.Told = append(x.Told, x.Held...)
			x.Held, x.Inside = nil, false
			x.Place++
		case api.DoAbort:
			if !now.aborts {
				return x.Told
			}
			p.back()
			x.Place = in.A
		case api.DoHalt:
			return x.Told
		default:
			p.plainly()
		}
	}
	t.Fatal("no end", l)
	return nil
}

// wantGrown asks how what is told may have grown in a step.
func wantGrown(t *testing.T, l []api.Instr, ahead, now api.ProgState) {
	t.Helper()
	n := len(ahead.Told)
	if len(now.Told) < n || !slices.Equal(now.Told[:n], ahead.Told) {
		t.Fatal(ahead, now)
	}
	more := now.Told[n:]
	if len(more) == 0 {
		return
	}
	in := l[ahead.Place]
	byTell := in.Op == api.DoTell && !ahead.Inside && slices.Equal(more, ahead.Stack[len(ahead.Stack)-1:])
	byCommit := in.Op == api.DoCommit && ahead.Inside && !now.Inside && now.Place == ahead.Place+1 && slices.Equal(more, ahead.Held)
	if !byTell && !byCommit {
		t.Fatal(in, ahead, now)
	}
}

func TestWhatIsToldIsOfAttemptsThatCommit(t *testing.T) {
	rnd := rand.New(rand.NewSource(169))
	tries, told := 0, 0
	for range 2000 {
		c := anyConfig(rnd)
		var lists [][]api.Instr
		for range 2 + rnd.Intn(3) {
			lists = append(lists, madeProgram(rnd, c.Cells))
		}
		p := newParty(t, newSpace(t, c), lists...)
		for _, i := range anyTurns(rnd, len(lists), 60) {
			ahead := p.progs[i].State()
			p.step(i)
			now := p.progs[i].State()
			wantGrown(t, lists[i], ahead, now)
			tries += max(0, now.Tries-ahead.Tries)
		}
		p.step(0)
		if !p.drain() {
			t.Fatal("no end")
		}
		events := p.s.Events()
		for i, x := range p.progs {
			want := retold(t, lists[i], tales(events, i+1))
			if got := x.State().Told; !slices.Equal(got, want) {
				text, _ := code.Print(lists[i])
				t.Fatal(text, got, want, x.State())
			}
			told += len(want)
		}
		if p.s.Most() > 1 {
			t.Fatal(p.s.Most())
		}
	}
	if tries < 2000 || told < 3000 {
		t.Error("too little was played", tries, told)
	}
}

// The whole's examples, as far as they speak of programs

const adding = "begin\npush 0\npush 0\nload\npush 3\nadd\nstore\ncommit"

func wantAdded(t *testing.T, p *party) {
	t.Helper()
	if !p.drain() {
		t.Fatal("no end")
	}
	n := len(p.progs)
	if v := p.s.View(); v.Cells[0] != int64(5+3*n) || v.Gate.Owner != 0 || v.Gate.Number%2 != 0 || v.Gate.Number < 2*n {
		t.Fatal(v)
	}
	for _, x := range p.progs {
		wantState(t, x, api.ProgState{Place: 8, Done: true})
	}
}

func TestTwoAddersWithFewSwitches(t *testing.T) {
	l := parsed(t, adding)
	for _, tag := range []int{api.CommitWins, api.ReaderBias, api.Aging} {
		tries := 0
		for first := range 25 {
			for second := range 25 {
				for third := range 25 {
					p := newParty(t, newSpace(t, api.Config{Cells: 1, Slots: 2, Bits: 128, Tag: tag, Defer: 2}, 5), l, l)
					for i, n := range []int{first, second, third, 60} {
						for range n {
							p.step(i % 2)
						}
						tries += p.progs[0].State().Tries + p.progs[1].State().Tries
					}
					wantAdded(t, p)
				}
			}
		}
		if tries == 0 {
			t.Error("too little was played", tag)
		}
	}
}

func TestManyAdders(t *testing.T) {
	rnd := rand.New(rand.NewSource(3))
	l := parsed(t, adding)
	for range 300 {
		c := anyConfig(rnd)
		n := 1 + rnd.Intn(8)
		p := newParty(t, newSpace(t, c, 5), slices.Repeat([][]api.Instr{l}, n)...)
		for _, i := range anyTurns(rnd, n, 100) {
			p.step(i)
		}
		wantAdded(t, p)
	}
}

func TestReadersDisturbNobody(t *testing.T) {
	rnd := rand.New(rand.NewSource(2))
	l := parsed(t, "begin\npush 0\nload\ntell\npush 1\nload\ntell\ncommit")
	for range 200 {
		p := newParty(t, newSpace(t, four(), 50, 51), l, l)
		for _, i := range anyTurns(rnd, 2, 60) {
			if a := p.step(i); a != api.Ran && a != api.Ended {
				t.Fatal(a)
			}
			if p.progs[i].State().Tries != 0 {
				t.Fatal(p.progs[i].State())
			}
		}
		p.drain()
		for _, x := range p.progs {
			wantState(t, x, api.ProgState{Place: 8, Told: []int64{50, 51}, Done: true})
		}
		if g := p.s.View().Gate; g != (api.Gate{}) {
			t.Fatal(g)
		}
	}
}

func TestWhoIsDoomedByBits(t *testing.T) {
	for bits, tries := range map[int]int{1: 1, 128: 0} {
		c := four()
		c.Bits = bits
		s := newSpace(t, c)
		r := newRunner(t, s, 1, "begin\npush 1\nload\npush 1\nload\npush 9\nabort 7").reach(t, 4)
		write(t, s, 2, 5)
		for r.p.State().Place != 5 && r.p.State().Place != 0 {
			r.step()
		}
		if x := r.p.State(); x.Tries != tries {
			t.Error(bits, x)
		}
	}
}

// Money goes round: who looks sees all of it at every time.
func TestWhatIsReadIsOfOneState(t *testing.T) {
	rnd := rand.New(rand.NewSource(24))
	seen := 0
	for range 300 {
		c := anyConfig(rnd)
		c.Cells = 3
		lists := [][]api.Instr{parsed(t, "a:\nbegin\npush 0\nload\npush 1\nload\npush 2\nload\nadd\nadd\ntell\ncommit\njump a")}
		for range 1 + rnd.Intn(3) {
			from, to, x := strconv.Itoa(rnd.Intn(3)), strconv.Itoa(rnd.Intn(3)), strconv.Itoa(rnd.Intn(9)-2)
			lists = append(lists, parsed(t, lines("a:", "begin", "push "+from, "dup", "load", "push "+x, "sub", "store", "push "+to, "dup", "load", "push "+x, "add", "store", "commit", "jump a")))
		}
		p := newParty(t, newSpace(t, c, 10, 20, 30), lists...)
		for _, i := range anyTurns(rnd, len(lists), 150) {
			p.step(i)
			// What an attempt has read that was doomed is of one state, too.
			if x := p.progs[0].State(); len(x.Held) > 0 && x.Held[0] != 60 {
				t.Fatal(x)
			}
		}
		for _, x := range p.progs[0].State().Told {
			if seen++; x != 60 {
				t.Fatal(x)
			}
		}
	}
	if seen < 1000 {
		t.Error("too little was seen", seen)
	}
}

// R4: the same steps have the same answers.
func TestPlayedAgainItIsTheSame(t *testing.T) {
	play := func() []all {
		rnd := rand.New(rand.NewSource(8))
		c := config(2, api.ReaderBias, 0, 1)
		p := newParty(t, newSpace(t, c), madeProgram(rnd, 20), madeProgram(rnd, 20), wildProgram(rnd, 20))
		for _, i := range anyTurns(rnd, 3, 60) {
			p.step(i)
		}
		var l []all
		for _, x := range p.progs {
			l = append(l, allOf(p.s, x))
		}
		return l
	}
	want := play()
	for i, x := range play() {
		if !sameState(x.state, want[i].state) || !slices.Equal(x.log, want[i].log) || !slices.Equal(x.events, want[i].events) {
			t.Error(x, want[i])
		}
	}
}

func TestProgramsOfSpacesHaveNothingInCommon(t *testing.T) {
	one, other := alone(t, four(), adding, 5), alone(t, wins(1), adding, 7)
	one.reach(t, 5)
	before := allOf(one.s, one.p)
	other.finish(t)
	wantAll(t, one.s, one.p, before)
	one.finish(t)
	if x, y := one.s.View().Cells[0], other.s.View().Cells[0]; x != 8 || y != 10 {
		t.Error(x, y)
	}
}
