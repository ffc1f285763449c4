package solver

import (
	"tumbler/api"
	"tumbler/fx"
	"tumbler/vec"
)

// pressing is an axis as a way: what is as long as an axis may be is about One even
// ahead of Unit, so that little is lost by what is rounded.
func pressing(w *fx.Work, axis api.Point) api.Vec {
	return vec.Unit(w, times(w, axis, api.One/api.MaxAxis))
}

// across are two ways across an axis and one another.
func across(w *fx.Work, axis api.Vec) []api.Vec {
	ways := [...]api.Vec{{X: api.One}, {Y: api.One}, {Z: api.One}}
	t := vec.Unit(w, vec.Cross(w, axis, ways[leastPart(axis)]))
	return []api.Vec{t, vec.Cross(w, axis, t)}
}

// leastPart is the place of the part of the least size, the first one of equals: the
// way of that place is the furthest from lying along a.
func leastPart(a api.Vec) int {
	parts, least := [...]int{a.X, a.Y, a.Z}, 0
	for i, n := range parts {
		if size(n) < size(parts[least]) {
			least = i
		}
	}
	return least
}

func size(n int) int { return max(n, -n) }

// times is a point as a vector, each part so many times: told by the work, as a point
// may be as far away as an int goes.
func times(w *fx.Work, p api.Point, many int) api.Vec {
	return vec.Scale(w, api.Vec(p), many*api.One)
}
