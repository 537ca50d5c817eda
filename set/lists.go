package set

import "iter"

// Where a set's cells stand, from its base on.
const (
	headAt = 0
	freeAt = 1
	sizeAt = 2
)

// Nodes are numbered from 1 on.
func keyAt(node int) int  { return sizeAt + 2*node - 1 }
func linkAt(node int) int { return sizeAt + 2*node }

// nodes is how many a set of those cells has.
func nodes(part []int64) int { return (len(part) - sizeAt) / 2 }

// isNode tells whether a head or a link leads to a node, not to the end or to nowhere.
func isNode(part []int64, link int64) bool { return link >= 1 && link <= int64(nodes(part)) }

// walk hands on where the links lead, from that one on, till the end. A link that leads nowhere is handed on as the last one; of links that lead back there is no last one, and whoever ranges over them has to leave.
func walk(part []int64, first int64) iter.Seq[int64] {
	return func(yield func(int64) bool) {
		link := first
		for link != 0 && yield(link) && isNode(part, link) {
			link = part[linkAt(int(link))]
		}
	}
}

// eachOnce tells whether both lists come to their ends, and have each node just once together.
func eachOnce(part []int64) bool {
	been := make([]bool, 1+nodes(part))
	met, astray := 0, false
lists:
	for _, first := range part[headAt:sizeAt] {
		for link := range walk(part, first) {
			if !isNode(part, link) || been[link] {
				astray = true
				break lists
			}
			been[link] = true
			met++
		}
	}
	return !astray && met == nodes(part)
}

// keys hands on those of the list, whose cells have stood eachOnce's test.
func keys(part []int64) iter.Seq[int64] {
	return func(yield func(int64) bool) {
		for link := range walk(part, part[headAt]) {
			if !yield(part[keyAt(int(link))]) {
				return
			}
		}
	}
}

// rising is a list of the keys that are handed on, if each is above the one ahead of it.
func rising(keys iter.Seq[int64]) ([]int64, bool) {
	l := []int64{}
	for key := range keys {
		if len(l) > 0 && l[len(l)-1] >= key {
			return nil, false
		}
		l = append(l, key)
	}
	return l, true
}
