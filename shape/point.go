package shape

import "tumbler/api"

// maxLong is how long a part of a direction may be that is made short.
const maxLong = 1 << 42

func less(p, q api.Point) api.Point { return api.Point{X: p.X - q.X, Y: p.Y - q.Y, Z: p.Z - q.Z} }

func back(p api.Point) api.Point { return less(api.Point{}, p) }

func dot(p, q api.Point) int { return p.X*q.X + p.Y*q.Y + p.Z*q.Z }

func cross(p, q api.Point) api.Point {
	return api.Point{X: p.Y*q.Z - p.Z*q.Y, Y: p.Z*q.X - p.X*q.Z, Z: p.X*q.Y - p.Y*q.X}
}

// across is a direction across the plane of three points; noughts, if they lie on
// one line.
func across(a, b, c api.Point) api.Point { return cross(less(b, a), less(c, a)) }

// within is whether no part's size is above most. (The least int has no size.)
func within(p api.Point, most int) bool {
	return between(p.X, -most, most) && between(p.Y, -most, most) && between(p.Z, -most, most)
}

// divided is each part by n, to nought.
func divided(p api.Point, n int) api.Point { return api.Point{X: p.X / n, Y: p.Y / n, Z: p.Z / n} }

// lowest is the direction with no number above 1 that divides all of its parts.
func lowest(p api.Point) api.Point {
	n := commonDivisor(commonDivisor(p.X, p.Y), p.Z)
	if n == 0 {
		return p
	}
	return divided(p, n)
}

// commonDivisor is the greatest number that divides both; 0 of noughts alone.
func commonDivisor(a, b int) int {
	for b != 0 {
		a, b = b, a%b
	}
	return max(a, -a)
}
