package mesh

import (
	"tumbler/api"
	"tumbler/pose"
)

// side goes from one place in the list of points to another one.
type side struct{ from, to int }

func (s side) back() side { return side{s.to, s.from} }

func sidesOf(t [3]int) [3]side {
	return [3]side{{t[0], t[1]}, {t[1], t[2]}, {t[2], t[0]}}
}

// ownersOf tells of each side which triangle has it; false, if two have one.
func ownersOf(tris [][3]int) (map[side]int, bool) {
	owners := map[side]int{}
	for n, t := range tris {
		for _, s := range sidesOf(t) {
			if _, is := owners[s]; is {
				return nil, false
			}
			owners[s] = n
		}
	}
	return owners, true
}

func corners(points []api.Point, t [3]int) (a, b, c api.Point) {
	return points[t[0]], points[t[1]], points[t[2]]
}

// boxOf is the least box around these.
func boxOf(points ...api.Point) api.Box { return pose.Span(api.Core{Points: points}) }

func less(p, q api.Point) api.Point { return api.Point{X: p.X - q.X, Y: p.Y - q.Y, Z: p.Z - q.Z} }

// across is a direction across the plane of three points; noughts, if they lie on
// one line. Each part is twice the area of a triangle in a square of 2^21 grains, so
// that none is above 2^42: each can be made short.
func across(a, b, c api.Point) api.Point {
	p, q := less(b, a), less(c, a)
	return api.Point{X: p.Y*q.Z - p.Z*q.Y, Y: p.Z*q.X - p.X*q.Z, Z: p.X*q.Y - p.Y*q.X}
}
