package sweep

import (
	"slices"

	"tumbler/api"
	"tumbler/shape"
)

func between(n, least, most int) bool { return least <= n && n <= most }

// inSize is whether no part's size is above most. (The least int has no size.)
func inSize(p api.Point, most int) bool {
	return between(p.X, -most, most) && between(p.Y, -most, most) && between(p.Z, -most, most)
}

func allInSize(l []api.Point, most int) bool {
	for _, p := range l {
		if !inSize(p, most) {
			return false
		}
	}
	return true
}

func plus(p, q api.Point) api.Point { return api.Point{X: p.X + q.X, Y: p.Y + q.Y, Z: p.Z + q.Z} }

func cross(p, q api.Point) api.Point {
	return api.Point{X: p.Y*q.Z - p.Z*q.Y, Y: p.Z*q.X - p.X*q.Z, Z: p.X*q.Y - p.Y*q.X}
}

// partOf is the way by so many sixteenths of it, each part to nought.
func partOf(way api.Point, part int) api.Point {
	return api.Point{X: way.X * part / whole, Y: way.Y * part / whole, Z: way.Z * part / whole}
}

func moved(l []api.Point, by api.Point) []api.Point {
	var out []api.Point
	for _, p := range l {
		out = append(out, plus(p, by))
	}
	return out
}

// acrossEach are the directions across what each edge sweeps over.
func acrossEach(edges []api.Point, along api.Point) []api.Point {
	var out []api.Point
	for _, e := range edges {
		out = append(out, shape.Short(cross(e, along)))
	}
	return out
}

// directions are those of both lists, as many as a core may have; noughts are none.
func directions(l, others []api.Point) []api.Point {
	var out []api.Point
	for _, n := range slices.Concat(l, others) {
		if n != (api.Point{}) && len(out) < maxDirections {
			out = append(out, n)
		}
	}
	return out
}
