package deque

// Where a deque's cells stand, from its base on. Places are numbered from 0 on.
const (
	frontAt = 0
	sizeAt  = 1
	firstAt = 2
)

func placeAt(place int) int { return firstAt + place }

// isRing tells whether a front and a size stand there that a deque of size n may have.
func isRing(part []int64, n int) bool {
	front, size := part[frontAt], part[sizeAt]
	return front >= 0 && front < int64(n) && size >= 0 && size <= int64(n)
}

// values are those of a ring, the front first.
func values(part []int64, n int) []int64 {
	front, size := int(part[frontAt]), int(part[sizeAt])
	l := make([]int64, size)
	for i := range size {
		l[i] = part[placeAt((front+i)%n)]
	}
	return l
}
