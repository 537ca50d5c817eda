package sched

import (
	"sync"

	"quash/api"
)

// crew is the threads of one run. A thread's place is its number less 1. All but the channels and the group belongs to the run's own goroutine.
type crew struct {
	turns   []chan int // a thread's own each, so that nobody else can take its turn
	answers chan int
	end     chan struct{}
	group   sync.WaitGroup

	ended []bool
	left  int // threads that have not ended
	marks []api.Mark
}

// gather starts so many threads; each of them waits.
func gather(threads int, step func(thread int) int) *crew {
	c := &crew{
		turns:   make([]chan int, threads),
		answers: make(chan int),
		end:     make(chan struct{}),
		ended:   make([]bool, threads),
		left:    threads,
	}
	c.group.Add(threads)
	for at := range c.turns {
		c.turns[at] = make(chan int)
		go c.serve(c.turns[at], step)
	}
	return c
}

// serve is a thread: a step for each of its turns, till the end.
func (c *crew) serve(turns chan int, step func(thread int) int) {
	defer c.group.Done()
	for {
		select {
		case thread := <-turns:
			c.answers <- step(thread)
		case <-c.end:
			return
		}
	}
}

// pick makes the next pick, on the thread at that place.
func (c *crew) pick(at int) {
	m := api.Mark{Pick: len(c.marks) + 1, Thread: at + 1, Answer: api.Ended}
	if !c.ended[at] {
		m.Answer = c.step(at)
	}
	c.marks = append(c.marks, m)
}

// step gives the thread at that place its turn, and rests till it has answered: so no two go on at one time.
func (c *crew) step(at int) int {
	c.turns[at] <- at + 1
	answer := <-c.answers
	if answer == api.Ended {
		c.ended[at] = true
		c.left--
	}
	return answer
}

// drain makes further picks, so many at most, round by round over the threads that have not ended.
func (c *crew) drain(most int) {
	threads := len(c.ended)
	at := 0
	for ; most > 0 && c.left > 0; most-- {
		for c.ended[at] {
			at = round(at+1, threads)
		}
		c.pick(at)
		at = round(at+1, threads)
	}
}

// dismiss tells all threads that this is the end, and rests till they have ended.
func (c *crew) dismiss() {
	close(c.end)
	c.group.Wait()
}
