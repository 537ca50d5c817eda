package commit

import (
	"quash/api"
	"quash/look"
)

// stage is a part of a commit. Its step makes one access, and tells the answer, and whose step comes next (nobody's: it is done).
type stage interface {
	step(x *Commit) (int, stage)
}

type taking struct{}

func (t taking) step(x *Commit) (int, stage) {
	n, e := x.space.Gate().Take(x.of.Thread)
	if e != api.OK {
		return api.Wait, t
	}
	x.number = n
	return api.Ran, owning{}
}

// owning comes behind the taking: from there on nobody else holds the gate, so who is not doomed now will not be.
type owning struct{}

func (owning) step(x *Commit) (int, stage) {
	head, _ := x.space.Slots().Look(x.of.Slot)
	if head.State != api.Live || head.Gen != x.of.Gen || head.Doomed {
		return api.Ran, x.giveUp(api.ErrDoomed)
	}
	return api.Ran, x.lookOn()
}

type looking struct{}

func (looking) step(x *Commit) (int, stage) {
	x.look.Step()
	return api.Ran, x.lookOn()
}

type dooming struct {
	doom *look.Doom
}

func (d dooming) step(x *Commit) (int, stage) {
	d.doom.Step()
	return api.Ran, x.doomOn(d.doom)
}

// writing are the writes that are not stored yet.
type writing []api.Pair

func (w writing) step(x *Commit) (int, stage) {
	x.space.Store(w[0].Cell, w[0].X)
	if len(w) == 1 {
		return api.Ran, giving{}
	}
	return api.Ran, w[1:]
}

type giving struct{}

func (giving) step(x *Commit) (int, stage) {
	x.space.Gate().Give(x.of.Thread)
	x.won = true
	return api.Ran, freeing{}
}

type givingUp struct{}

func (givingUp) step(x *Commit) (int, stage) {
	x.space.Gate().Give(x.of.Thread)
	if x.e == api.ErrDefer {
		return api.Wait, freeing{}
	}
	return api.Ran, freeing{}
}

type freeing struct{}

func (freeing) step(x *Commit) (int, stage) {
	x.space.Slots().Free(x.of.Slot, x.of.Gen)
	return api.Ran, nil
}

// lookOn judges as soon as there is nothing more to look at, so that no step goes by without an access.
func (x *Commit) lookOn() stage {
	if !x.look.Done() {
		return looking{}
	}
	victims := x.Victims()
	switch x.judge.Decide(x.of.Stamp, victims) {
	case api.Defer:
		return x.giveUp(api.ErrDefer)
	case api.Yield:
		return x.giveUp(api.ErrYield)
	}
	// Of a thread that New took, and of slots that were looked at, nothing is refused.
	doom, _ := look.NewDoom(x.space, x.of.Thread, victims)
	return x.doomOn(doom)
}

// doomOn has the writes behind all dooms: whoever finds the gate given back, and the cells new, is doomed already, if it had to be.
func (x *Commit) doomOn(doom *look.Doom) stage {
	if !doom.Done() {
		return dooming{doom}
	}
	return writing(x.of.Writes)
}

func (x *Commit) giveUp(why api.Errno) stage {
	x.e = why
	return givingUp{}
}
