package ghost

import (
	"iter"

	"quash/api"
)

// those hands on the ones of a list that are as is asked for, in their order.
func those[T any](l []T, is func(T) bool) iter.Seq[T] {
	return func(yield func(T) bool) {
		for _, x := range l {
			if is(x) && !yield(x) {
				return
			}
		}
	}
}

func writes(m api.Move) bool { return m.Write }

// looksOut tells whether a move reads what others left.
func looksOut(m api.Move) bool { return !m.Write && !m.Own }

func commits(s api.Story) bool { return s.Fate == api.Commits }
func aborts(s api.Story) bool  { return s.Fate == api.Aborts }
