package joint

import (
	"tumbler/api"
	"tumbler/fx"
	"tumbler/vec"
)

const (
	maxAt    = 1 << 37 // of a part of AtA, and of AtB
	maxLong  = 1 << 42
	maxMotor = 1 << 36
	maxForce = 1 << 44
	axisOff  = 8 // how far from One an axis' Len may be
)

func formed(j api.Joint) bool {
	return between(j.Kind, api.Rope, api.Weld) && j.A >= 1 && j.B >= 1 && j.A != j.B &&
		within(j.AtA, maxAt) && within(j.AtB, maxAt) && between(j.Long, 0, maxLong) &&
		between(j.Motor, -maxMotor, maxMotor) && between(j.Force, 0, maxForce) &&
		(j.Kind != api.Hinge || whole(j.AxisA) && whole(j.AxisB))
}

// whole is whether an axis is about as long as One. (A Len that is Bad is told as 0.)
func whole(axis api.Vec) bool {
	return between(vec.Len(&fx.Work{}, axis), api.One-axisOff, api.One+axisOff)
}

// within is whether no part of a is above most in size.
func within(a api.Vec, most int) bool {
	return between(a.X, -most, most) && between(a.Y, -most, most) && between(a.Z, -most, most)
}

func between(n, least, most int) bool { return least <= n && n <= most }
