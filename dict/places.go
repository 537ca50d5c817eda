package dict

import (
	"cmp"
	"slices"

	"quash/api"
)

// Where a dict's cells stand, from its base on. Places are numbered from 0 on.
const (
	sizeAt     = 0
	placeCells = 3
)

func stateAt(place int) int { return sizeAt + 1 + placeCells*place }
func keyAt(place int) int   { return stateAt(place) + 1 }
func valueAt(place int) int { return stateAt(place) + 2 }

// The states of a place.
const (
	free = iota
	used
	gone
)

// placesOf is how many a dict of those cells has.
func placesOf(part []int64) int { return len(part) / placeCells }

// home is the place at which a key is tried first, of so many.
func home(key int64, n int) int {
	left := int(key % int64(n))
	if left < 0 {
		left += n
	}
	return left
}

// usedPlaces has the place of each key that is there. It is not right, if a state is none, or a key is there twice.
func usedPlaces(part []int64) (places map[int64]int, right bool) {
	places = map[int64]int{}
	for place := range placesOf(part) {
		switch part[stateAt(place)] {
		case free, gone:
		case used:
			key := part[keyAt(place)]
			if _, twice := places[key]; twice {
				return nil, false
			}
			places[key] = place
		default:
			return nil, false
		}
	}
	return places, true
}

// allReached tells whether whoever looks for a key that is there comes to its place.
func allReached(part []int64, places map[int64]int) bool {
	for key, place := range places {
		if !reached(part, key, place) {
			return false
		}
	}
	return true
}

// reached tells whether no place is free from a key's home on, ahead of that place.
func reached(part []int64, key int64, place int) bool {
	n := placesOf(part)
	for at := home(key, n); at != place; at = (at + 1) % n {
		if part[stateAt(at)] == free {
			return false
		}
	}
	return true
}

// inOrder has keys with values as entries, by rising keys.
func inOrder(values map[int64]int64) []api.Entry {
	l := make([]api.Entry, 0, len(values))
	for key, x := range values {
		l = append(l, api.Entry{Key: key, X: x})
	}
	slices.SortFunc(l, func(a, b api.Entry) int { return cmp.Compare(a.Key, b.Key) })
	return l
}

// rise tells whether each entry's key is above that of the one ahead of it.
func rise(l []api.Entry) bool {
	for i := 1; i < len(l); i++ {
		if l[i-1].Key >= l[i].Key {
			return false
		}
	}
	return true
}
