package look

import (
	"slices"

	"quash/api"
	"quash/slots"
	"quash/space"
)

// Doom is dooming that is under way.
type Doom struct {
	table  *slots.Table
	by     int
	left   []api.Victim // those whose turn has not come yet
	doomed []api.Victim
}

// NewDoom begins to doom victims.
func NewDoom(s *space.Space, by int, victims []api.Victim) (*Doom, api.Errno) {
	if by < 1 || by > api.MaxThreads {
		return nil, api.ErrArg
	}
	table := s.Slots()
	for _, v := range victims {
		if !has(table, v.Slot) {
			return nil, api.ErrPlace
		}
	}
	return &Doom{table: table, by: by, left: slices.Clone(victims)}, api.OK
}

// Step dooms one.
func (x *Doom) Step() int {
	if x.Done() {
		return api.Idle
	}
	v := x.left[0]
	x.left = x.left[1:]
	// Refused is one whose attempt has ended since it was met. Whoever has the slot now began while the gate was held, and has no read yet that could be wrong.
	if x.table.Doom(v.Slot, v.Gen, x.by) == api.OK {
		x.doomed = append(x.doomed, v)
	}
	return api.Ran
}

// Done: has it ended?
func (x *Doom) Done() bool { return len(x.left) == 0 }

// Doomed are those that were there still.
func (x *Doom) Doomed() []api.Victim { return slices.Clone(x.doomed) }
