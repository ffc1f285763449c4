package joint

import (
	"tumbler/api"
	"tumbler/fx"
	"tumbler/vec"
)

func axes() []api.Vec { return []api.Vec{{X: api.One}, {Y: api.One}, {Z: api.One}} }

// across are two ways across an axis and one another.
func across(w *fx.Work, axis api.Vec) []api.Vec {
	t := vec.Unit(w, vec.Cross(w, axis, axes()[leastPart(axis)]))
	return []api.Vec{t, vec.Cross(w, axis, t)}
}

// leastPart is the place of the part of the least size, the first one of equals: the
// axis of that place is the furthest from lying along a.
func leastPart(a api.Vec) int {
	parts, least := [...]int{a.X, a.Y, a.Z}, 0
	for i, n := range parts {
		if size(n) < size(parts[least]) {
			least = i
		}
	}
	return least
}

func size(n int) int { return max(n, -n) }

// conjugate is the turn back.
func conjugate(w *fx.Work, q api.Quat) api.Quat {
	v := vec.Sub(w, api.Vec{}, api.Vec{X: q.X, Y: q.Y, Z: q.Z})
	return api.Quat{W: q.W, X: v.X, Y: v.Y, Z: v.Z}
}
