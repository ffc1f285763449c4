package contact

import "tumbler/api"

const (
	frontSizes = 8   // so many upper sizes behind the foremost point is a point of the front
	firstOfB   = 256 // the ID of b's first point: beyond all of a's
)

// meeting is two cores along a direction that goes from a to b.
type meeting struct {
	axis      api.Point
	down, up  int // its sizes
	high, low int // where a ends along it, and where b begins
}

// side is one of both. What is ahead for a is behind for b: so each tells it by
// functions of its own, and nobody who has the owner asks which one it is.
type side struct {
	points []api.Point
	behind func(along int) int         // how far from its foremost point
	past   func(along int) int         // how far beyond the other one's foremost point
	skin   func(p api.Point) api.Point // where the radius around a point ends
	id     func(place int) int
}

func (m meeting) sideOfA(a api.Core) side {
	out := m.long(a.Radius)
	return side{
		points: a.Points,
		behind: func(along int) int { return m.high - along },
		past:   func(along int) int { return along - m.low },
		skin:   func(p api.Point) api.Point { return plus(p, out) },
		id:     func(place int) int { return place },
	}
}

func (m meeting) sideOfB(b api.Core) side {
	out := m.long(b.Radius)
	return side{
		points: b.Points,
		behind: func(along int) int { return along - m.low },
		past:   func(along int) int { return m.high - along },
		skin:   func(p api.Point) api.Point { return less(p, out) },
		id:     func(place int) int { return firstOfB + place },
	}
}

// long is the direction, made so many grains long. (By the lower size: a part of it is
// never above that, so it is never above what was asked for.)
func (m meeting) long(grains int) api.Point {
	n := m.axis
	return api.Point{X: n.X * grains / m.down, Y: n.Y * grains / m.down, Z: n.Z * grains / m.down}
}

// owner is the one whose points the spots are of: what is less spread lies within the
// other one rather than the other way round.
func (m meeting) owner(a, b api.Core) side {
	first, second := m.sideOfA(a), m.sideOfB(b)
	if spread(m.front(first)) < spread(m.front(second)) {
		return first
	}
	return second
}

func (m meeting) inFront(s side, p api.Point) bool {
	return s.behind(dot(m.axis, p)) <= frontSizes*m.up
}

func (m meeting) front(s side) []api.Point {
	var l []api.Point
	for _, p := range s.points {
		if m.inFront(s, p) {
			l = append(l, p)
		}
	}
	return l
}

// spots are those of a side's front, both radii being so much together.
func (m meeting) spots(s side, radii int) []api.Spot {
	var l []api.Spot
	for i, p := range s.points {
		if m.inFront(s, p) {
			depth := floor(s.past(dot(m.axis, p)), m.down) + radii
			l = append(l, api.Spot{At: s.skin(p), Depth: depth, ID: s.id(i)})
		}
	}
	return l
}
