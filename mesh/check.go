package mesh

import (
	"tumbler/api"
	"tumbler/pose"
)

const (
	minPoints = 3
	maxPoints = 128
	maxPart   = 1 << 20 // of a point

	minWide = 2
	maxWide = 9 // a field so wide and so deep has MaxTris triangles
	maxStep = 1 << 16
)

func between(n, least, most int) bool { return least <= n && n <= most }

// pointsMayBe is whether they are neither too few nor too many, and none is too
// far, whether a triangle has it or not.
func pointsMayBe(points []api.Point) bool {
	room := pose.Grown(api.Box{}, maxPart)
	return between(len(points), minPoints, maxPoints) && pose.Join(room, boxOf(points...)) == room
}

// trisMayBe is whether they are neither too few nor too many, and each is one of
// such points.
func trisMayBe(points []api.Point, tris [][3]int) bool {
	if !between(len(tris), 1, api.MaxTris) {
		return false
	}
	for _, t := range tris {
		if !placesMayBe(t, len(points)) || across(corners(points, t)) == (api.Point{}) {
			return false
		}
	}
	return true
}

// placesMayBe is whether there are such places among so many, all unlike.
func placesMayBe(t [3]int, many int) bool {
	for _, place := range t {
		if !between(place, 0, many-1) {
			return false
		}
	}
	return t[0] != t[1] && t[1] != t[2] && t[2] != t[0]
}
