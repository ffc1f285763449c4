package narrow

import "tumbler/api"

const (
	maxPoints     = 32
	maxDirections = 128 // of axes, and of edges
	maxPart       = 1 << 24
	maxRadius     = 1 << 16
)

// mayBe is whether a core is within what can be told apart: no sum and no product
// on the way to an answer is beyond an int then.
func mayBe(c api.Core) bool {
	return between(len(c.Points), 1, maxPoints) && allWithin(c.Points, maxPart) &&
		directionsMayBe(c.Axes) && directionsMayBe(c.Edges) && between(c.Radius, 0, maxRadius)
}

func directionsMayBe(l []api.Point) bool {
	return len(l) <= maxDirections && allWithin(l, api.MaxAxis)
}

// gap is how far two are apart by a long direction. Both roundings tell too little
// rather than too much, so that the direction proves what is told.
func gap(a, b api.Core, n api.Point) int {
	_, high := ends(a.Points, n)
	low, _ := ends(b.Points, n)
	down, up := Sizes(n)
	room := low - high
	if room >= 0 {
		room /= up
	} else {
		room = -((down - 1 - room) / down)
	}
	return room - a.Radius - b.Radius
}

// ends are the least and the greatest n . p of the points, of which there is one at
// least.
func ends(points []api.Point, n api.Point) (low, high int) {
	low = dot(n, points[0])
	high = low
	for _, p := range points[1:] {
		at := dot(n, p)
		low, high = min(low, at), max(high, at)
	}
	return low, high
}
