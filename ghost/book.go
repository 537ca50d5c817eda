package ghost

import "quash/api"

// book is how far the stories have come.
type book struct {
	stories []api.Story
	open    map[int]int // by threads: the place of the story that is open
	step    int         // that of the event ahead
}

func newBook() *book { return &book{open: map[int]int{}} }

// takes tells whether an event may come next.
func (b *book) takes(v api.Event) bool {
	if !mayBe(v) || v.Step < b.step {
		return false
	}
	place, open := b.open[v.Thread]
	if v.Kind == api.EventBegin || v.Kind == api.EventSlots {
		return !open
	}
	return open && b.stories[place].Stamp == v.Stamp
}

// mayBe tells whether an event may be at all, whatever is ahead of it.
func mayBe(v api.Event) bool {
	return v.Kind >= api.EventBegin && v.Kind <= api.EventSlots &&
		v.Thread >= 1 && v.Thread <= api.MaxThreads &&
		v.Stamp >= 1 && v.Stamp <= v.Step // so the step is no less than 1 too
}

// put adds an event that it takes to its story.
func (b *book) put(v api.Event) {
	b.step = v.Step
	switch v.Kind {
	case api.EventBegin:
		b.open[v.Thread] = len(b.stories)
		b.stories = append(b.stories, api.Story{Thread: v.Thread, Stamp: v.Stamp, Begin: v.Step, Opens: v.Gate})
	case api.EventRead, api.EventWrite:
		s := b.openOf(v.Thread)
		s.Moves = append(s.Moves, moveOf(v))
	case api.EventCommit, api.EventAbort:
		end(b.openOf(v.Thread), v)
		delete(b.open, v.Thread)
	}
}

// openOf is good till the next story begins: the list may move then.
func (b *book) openOf(thread int) *api.Story { return &b.stories[b.open[thread]] }

func moveOf(v api.Event) api.Move {
	m := api.Move{Step: v.Step, Cell: v.Cell, X: v.X}
	switch {
	case v.Kind == api.EventWrite:
		m.Write = true
	case v.Own:
		m.Own = true
	default:
		m.Gate = v.Gate
	}
	return m
}

func end(s *api.Story, v api.Event) {
	s.End = v.Step
	if v.Kind == api.EventCommit {
		s.Fate, s.Gate = api.Commits, v.Gate
		return
	}
	s.Fate, s.E = api.Aborts, v.E
	if v.E == api.ErrDoomed {
		s.By = v.By
	}
}
