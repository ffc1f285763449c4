package contact

import "tumbler/api"

const (
	maxPoints     = 32
	maxDirections = 128 // of axes, and of edges
	maxPart       = 1 << 24
	maxRadius     = 1 << 16
)

// mayBe is whether a core is one that layer 9 tells apart. It is asked here and not
// there, as to tell a core apart from itself is long work.
func mayBe(c api.Core) bool {
	return between(len(c.Points), 1, maxPoints) && allInSize(c.Points, maxPart) &&
		directionsMayBe(c.Axes) && directionsMayBe(c.Edges) && between(c.Radius, 0, maxRadius)
}

func directionsMayBe(l []api.Point) bool {
	return len(l) <= maxDirections && allInSize(l, api.MaxAxis)
}

func between(n, least, most int) bool { return least <= n && n <= most }

// inSize is whether no part's size is above most. (The least int has no size.)
func inSize(p api.Point, most int) bool {
	return between(p.X, -most, most) && between(p.Y, -most, most) && between(p.Z, -most, most)
}

func allInSize(l []api.Point, most int) bool {
	for _, p := range l {
		if !inSize(p, most) {
			return false
		}
	}
	return true
}
