package mem

import (
	"slices"

	"quash/api"
)

// Meter counts accesses, step by step. A nil one counts nothing, so that rows need not ask whether they have one.
type Meter struct {
	steps, thread int
	done, most    int
	log           []api.Access
}

// NewMeter is one that has counted nothing.
func NewMeter() *Meter { return &Meter{} }

// Begin begins a step of a thread.
func (m *Meter) Begin(thread int) {
	if m == nil {
		return
	}
	m.steps++
	m.thread = thread
	m.done = 0
}

// Steps is how many steps were begun.
func (m *Meter) Steps() int {
	if m == nil {
		return 0
	}
	return m.steps
}

// Done is how many accesses were noted since the last Begin, or since the meter was made.
func (m *Meter) Done() int {
	if m == nil {
		return 0
	}
	return m.done
}

// Most is the greatest that Done ever was.
func (m *Meter) Most() int {
	if m == nil {
		return 0
	}
	return m.most
}

// Log is all accesses, in their order.
func (m *Meter) Log() []api.Access {
	if m == nil {
		return nil
	}
	return slices.Clone(m.log)
}

func (m *Meter) note(kind, at, op int, ok bool) {
	if m == nil {
		return
	}
	m.done++
	m.most = max(m.most, m.done)
	m.log = append(m.log, api.Access{Step: m.steps, Thread: m.thread, Kind: kind, At: at, Op: op, Ok: ok})
}
