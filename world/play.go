package world

import (
	"strconv"
	"strings"

	"quash/api"
	"quash/ghost"
	"quash/opaque"
	"quash/script"
)

// Play plays a script's text: its transcript.
func Play(text string) (string, int, api.Errno) {
	s, line, e := script.Parse(text)
	if e != api.OK {
		return "", line, e
	}
	// What Parse tells is refused nowhere.
	w, _ := New(s)
	marks, _ := w.Run(s.Picks, s.Drain)
	var b strings.Builder
	writeMarks(&b, marks)
	w.writeThreads(&b)
	w.writeShared(&b)
	writeStories(&b, s.Start, w.Stories())
	return b.String(), 0, api.OK
}

func writeMarks(b *strings.Builder, marks []api.Mark) {
	answers := map[int]int{} // how many there are of each
	for _, m := range marks {
		answers[m.Answer]++
	}
	write(b, "picks", len(marks), answers[api.Ran], answers[api.Wait], answers[api.Ended])
	endLine(b)
}

func (w *World) writeThreads(b *strings.Builder) {
	for at := range w.Threads() {
		x := w.progs[at].State()
		write(b, "thread", at+1)
		if x.Done {
			write(b, " done", x.E)
		} else {
			write(b, " at", x.Place)
		}
		write(b, " told", x.Told...)
		endLine(b)
	}
}

func (w *World) writeShared(b *strings.Builder) {
	v := w.View()
	write(b, "cells", v.Cells...)
	endLine(b)
	write(b, "gate", v.Gate.Number, v.Gate.Owner)
	endLine(b)
}

func writeStories(b *strings.Builder, start []int64, l []api.Story) {
	n := ghost.Count(l)
	write(b, "stories", n.Lives, n.Commits, n.Aborts, n.Doomed)
	endLine(b)
	e, at := opaque.Check(start, l, opaque.Order(l))
	write(b, "opaque", int(e), at)
	endLine(b)
}

// write writes a word, and numbers with a blank ahead of each.
func write[N ~int | ~int64](b *strings.Builder, word string, numbers ...N) {
	b.WriteString(word)
	for _, n := range numbers {
		b.WriteString(" " + strconv.FormatInt(int64(n), 10))
	}
}

func endLine(b *strings.Builder) { b.WriteString("\n") }
