package pose

import (
	"iter"

	"tumbler/api"
)

// each goes through points, each as become has it.
func each[T any](points []api.Point, become func(api.Point) T) iter.Seq[T] {
	return func(tell func(T) bool) {
		for _, p := range points {
			if !tell(become(p)) {
				return
			}
		}
	}
}

// gathered are points in a list of their own.
func gathered(points iter.Seq[api.Point]) []api.Point {
	var out []api.Point
	for p := range points {
		out = append(out, p)
	}
	return out
}

func same(p api.Point) api.Point { return p }

// around is the box that has p alone.
func around(p api.Point) api.Box { return api.Box{Min: p, Max: p} }

func plus(p, q api.Point) api.Point { return api.Point{X: p.X + q.X, Y: p.Y + q.Y, Z: p.Z + q.Z} }

func thrice(n int) api.Point { return api.Point{X: n, Y: n, Z: n} }

func lesser(p, q api.Point) api.Point {
	return api.Point{X: min(p.X, q.X), Y: min(p.Y, q.Y), Z: min(p.Z, q.Z)}
}

func greater(p, q api.Point) api.Point {
	return api.Point{X: max(p.X, q.X), Y: max(p.Y, q.Y), Z: max(p.Z, q.Z)}
}

// noneAbove is whether no part of p is above q's of the same place.
func noneAbove(p, q api.Point) bool { return p.X <= q.X && p.Y <= q.Y && p.Z <= q.Z }

// within is whether no part's size is above most. (The least int has no size.)
func within(p api.Point, most int) bool {
	return noneAbove(p, thrice(most)) && noneAbove(thrice(-most), p)
}

func allWithin(points []api.Point, most int) bool {
	for is := range each(points, func(p api.Point) bool { return within(p, most) }) {
		if !is {
			return false
		}
	}
	return true
}
