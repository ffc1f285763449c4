package shape

import (
	"slices"

	"tumbler/api"
)

const minPoints = 4 // fewer are always of one plane

// formed is whether a shape's numbers are what its Kind asks; flat hulls too.
func formed(s api.Shape) bool {
	switch s.Kind {
	case api.Ball:
		return between(s.Radius, 1, api.MaxRadius)
	case api.Capsule:
		return between(s.Radius, 1, api.MaxRadius) && halvesMayBe(s.Half.X)
	case api.Brick:
		return between(s.Radius, 0, api.MaxRadius) && halvesMayBe(s.Half.X, s.Half.Y, s.Half.Z)
	case api.Hull:
		return between(s.Radius, 0, api.MaxRadius) && pointsMayBe(s.Points)
	}
	return false
}

func between(n, least, most int) bool { return least <= n && n <= most }

func halvesMayBe(halves ...int) bool {
	for _, n := range halves {
		if !between(n, 1, api.MaxGrains) {
			return false
		}
	}
	return true
}

// pointsMayBe is whether a hull may have these: neither too few nor too many, all
// unlike, none too far.
func pointsMayBe(points []api.Point) bool {
	if !between(len(points), minPoints, api.MaxPoints) {
		return false
	}
	for i, p := range points {
		if !within(p, api.MaxGrains) || slices.Contains(points[:i], p) {
			return false
		}
	}
	return true
}

// flat is whether points that are all unlike lie in one plane: the first two
// always tell a line, so that any third one beside it tells the only plane.
func flat(points []api.Point) bool {
	a, b := points[0], points[1]
	for _, c := range points {
		n := across(a, b, c)
		for _, m := range points {
			if dot(n, less(m, a)) != 0 {
				return false
			}
		}
	}
	return true
}
