package narrow

import "tumbler/api"

func between(n, least, most int) bool { return least <= n && n <= most }

// within is whether no part's size is above most. (The least int has no size.)
func within(p api.Point, most int) bool {
	return between(p.X, -most, most) && between(p.Y, -most, most) && between(p.Z, -most, most)
}

func allWithin(l []api.Point, most int) bool {
	for _, p := range l {
		if !within(p, most) {
			return false
		}
	}
	return true
}

func plus(p, q api.Point) api.Point { return api.Point{X: p.X + q.X, Y: p.Y + q.Y, Z: p.Z + q.Z} }

func less(p, q api.Point) api.Point { return api.Point{X: p.X - q.X, Y: p.Y - q.Y, Z: p.Z - q.Z} }

func back(p api.Point) api.Point { return less(api.Point{}, p) }

func dot(p, q api.Point) int { return p.X*q.X + p.Y*q.Y + p.Z*q.Z }

func cross(p, q api.Point) api.Point {
	return api.Point{X: p.Y*q.Z - p.Z*q.Y, Y: p.Z*q.X - p.X*q.Z, Z: p.X*q.Y - p.Y*q.X}
}

// root is the square root of a direction's square, down, bit by bit: of three parts
// of maxSized it is below twice that.
func root(n int) int {
	r := 0
	for bit := maxSized; bit > 0; bit /= 2 {
		if more := r + bit; more*more <= n {
			r = more
		}
	}
	return r
}
