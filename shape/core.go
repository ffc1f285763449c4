package shape

import (
	"slices"

	"tumbler/api"
)

// corners are a brick's: by X, then by Y, then by Z, below 0 first.
func corners(half api.Point) []api.Point {
	var out []api.Point
	for _, x := range [2]int{-half.X, half.X} {
		for _, y := range [2]int{-half.Y, half.Y} {
			for _, z := range [2]int{-half.Z, half.Z} {
				out = append(out, api.Point{X: x, Y: y, Z: z})
			}
		}
	}
	return out
}

// straight are the three directions of space, in a new list each time.
func straight() []api.Point { return []api.Point{{X: 1}, {Y: 1}, {Z: 1}} }

// sides are the directions across a hull's faces, which look out of it, and from
// point to point of each face. A plane of three points is a face's, if no two
// points have it between them; as not all points lie in it, there is one way out.
func sides(points []api.Point) (axes, edges []api.Point) {
	for i, a := range points {
		for j := i + 1; j < len(points); j++ {
			b := points[j]
		threes:
			for _, c := range points[j+1:] {
				n := across(a, b, c)
				if n == (api.Point{}) {
					continue threes
				}
				above, below := false, false
				for _, m := range points {
					high := dot(n, less(m, a))
					above, below = above || high > 0, below || high < 0
					if above && below {
						continue threes
					}
				}
				if above {
					n = back(n)
				}
				axes = withAxis(axes, Short(n))
				edges = withEdges(edges, less(b, a), less(c, a), less(c, b))
			}
		}
	}
	return axes, edges
}

func withAxis(axes []api.Point, n api.Point) []api.Point {
	if slices.Contains(axes, n) {
		return axes
	}
	return append(axes, n)
}

// withEdges adds those that are not there, either way round; all are made short.
func withEdges(edges []api.Point, more ...api.Point) []api.Point {
	for _, e := range more {
		e = Short(e)
		if !slices.Contains(edges, e) && !slices.Contains(edges, back(e)) {
			edges = append(edges, e)
		}
	}
	return edges
}
