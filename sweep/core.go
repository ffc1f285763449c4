package sweep

import "tumbler/api"

const (
	maxPoints     = 16  // of a core that goes: its trail has twice as many
	maxDirections = 128 // of axes, and of edges
	maxPart       = 1 << 24
	maxRadius     = 1 << 16
	maxWay        = 1 << 22
)

// mayGo is whether both a core that goes and its way may be. That the core is one that
// layer 9 tells apart is asked here and not there, as a trail has no other core to be
// told apart from.
func mayGo(c api.Core, way api.Point) bool {
	return between(len(c.Points), 1, maxPoints) && allInSize(c.Points, maxPart) &&
		directionsMayBe(c.Axes) && directionsMayBe(c.Edges) && between(c.Radius, 0, maxRadius) && inSize(way, maxWay)
}

func directionsMayBe(l []api.Point) bool {
	return len(l) <= maxDirections && allInSize(l, api.MaxAxis)
}
