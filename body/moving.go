package body

import (
	"slices"

	"tumbler/api"
	"tumbler/fx"
)

// ifMoving is how all calls spare a body that is not Moving: what would be done to
// it, and by which work, is in the closure alone.
func ifMoving(b api.Body, do func()) {
	if b.Kind == api.Moving {
		do()
	}
}

// copied is the body as it is, with points of its own: what comes out shares none
// with what was handed in.
func copied(b api.Body) api.Body {
	b.Shape.Points = slices.Clone(b.Shape.Points)
	return b
}

// divided is each part of a by that part of by. They are told one by one, as layer
// 1 tells numbers: one that has none leaves the others as they are.
func divided(w *fx.Work, a, by api.Vec) api.Vec {
	return api.Vec{X: w.Div(a.X, by.X), Y: w.Div(a.Y, by.Y), Z: w.Div(a.Z, by.Z)}
}

// halvedTill halves a momentum as long as it is not yet slow; whether it did. It
// ends: a momentum of noughts has no speed, or none that a work tells.
func halvedTill(momentum *api.Vec, slow func() bool) bool {
	did := false
	for ; !slow(); did = true {
		*momentum = api.Vec{X: momentum.X / 2, Y: momentum.Y / 2, Z: momentum.Z / 2}
	}
	return did
}
