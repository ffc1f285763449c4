package shape

import (
	"tumbler/api"
	"tumbler/fx"
)

// minInertia is the least that a body may have (chapter 12): the smallest shapes
// have less.
const minInertia = 1 << 12

// inertiaOf is that of a shape of this kind, with its core, around its own three
// axes: all but balls are taken for boxes.
func inertiaOf(w *fx.Work, kind int, c api.Core, mass int) api.Vec {
	if kind == api.Ball {
		return ballInertia(w, c.Radius*api.Grain, mass)
	}
	return boxInertia(w, halfWidths(c), mass)
}

// ballInertia is a ball's of this radius, in FX.
func ballInertia(w *fx.Work, radius, mass int) api.Vec {
	n := w.Ratio(w.Mul(mass, w.Mul(radius, radius)), 2, 5)
	return api.Vec{X: n, Y: n, Z: n}
}

// boxInertia is a box's of these half widths, in FX.
func boxInertia(w *fx.Work, half api.Vec, mass int) api.Vec {
	a := w.Mul(mass, w.Mul(half.X, half.X))
	b := w.Mul(mass, w.Mul(half.Y, half.Y))
	c := w.Mul(mass, w.Mul(half.Z, half.Z))
	third := func(m, n int) int { return w.Ratio(w.Add(m, n), 1, 3) }
	return api.Vec{X: third(b, c), Y: third(c, a), Z: third(a, b)}
}

// halfWidths are a core's, its radius too, in FX.
func halfWidths(c api.Core) api.Vec {
	low, high := c.Points[0], c.Points[0]
	for _, p := range c.Points {
		low = api.Point{X: min(low.X, p.X), Y: min(low.Y, p.Y), Z: min(low.Z, p.Z)}
		high = api.Point{X: max(high.X, p.X), Y: max(high.Y, p.Y), Z: max(high.Z, p.Z)}
	}
	half := divided(less(high, low), 2)
	inFX := func(grains int) int { return (grains + c.Radius) * api.Grain }
	return api.Vec{X: inFX(half.X), Y: inFX(half.Y), Z: inFX(half.Z)}
}

func atLeast(v api.Vec, n int) api.Vec {
	return api.Vec{X: max(v.X, n), Y: max(v.Y, n), Z: max(v.Z, n)}
}
