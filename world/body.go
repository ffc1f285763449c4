package world

import (
	"slices"

	"tumbler/api"
	"tumbler/body"
	"tumbler/fx"
	"tumbler/pose"
	"tumbler/shape"
)

// check is whether a body may be in a world, but for the room.
func check(work *fx.Work, b api.Body) api.Errno {
	if e := body.Check(b); e != api.OK {
		return e
	}
	if b.Fast && (b.Kind != api.Moving || b.Shape.Kind != api.Ball) {
		return api.ErrWorldKind
	}
	_, cut := body.Cap(work, b)
	_, is := placed(b.Shape, b.Pose)
	if cut || work.Bad || !is {
		return api.ErrRange
	}
	return api.OK
}

// owned is the body with points of its own.
func owned(b api.Body) api.Body {
	b.Shape.Points = slices.Clone(b.Shape.Points)
	return b
}

func awake(b api.Body) bool { return mayMove(b) && !b.Asleep }

// mayMove is whether a body is awake or may be woken.
func mayMove(b api.Body) bool { return b.Kind == api.Moving && !b.Out }

func woken(b api.Body) api.Body {
	b.Asleep, b.Quiet = false, 0
	return b
}

// mayTouch is whether each of both is of what the other one asks for.
func mayTouch(a, b api.Body) bool {
	return !a.Out && !b.Out && a.Group&b.Mask != 0 && b.Group&a.Mask != 0
}

// coreOf is the core of a body where it is. (Those of a world can all be placed.)
func coreOf(b api.Body) api.Core {
	c, _ := placed(b.Shape, b.Pose)
	return c
}

// placed is a shape's core at a pose; false: there is none.
func placed(s api.Shape, p api.Pose) (api.Core, bool) {
	c, e := shape.Core(s)
	if e != api.OK {
		return api.Core{}, false
	}
	return pose.Place(c, p)
}

// within is whether no part of a is above most in size.
func within(a api.Vec, most int) bool {
	for _, n := range [...]int{a.X, a.Y, a.Z} {
		if n < -most || n > most {
			return false
		}
	}
	return true
}
