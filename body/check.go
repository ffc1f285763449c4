package body

import (
	"tumbler/api"
	"tumbler/fx"
)

const (
	maxMomentum = 1 << 54 // of a part of P, and of L
	minInertia  = 1 << 12
	maxInertia  = 1 << 49
	turnOff     = 8 // how far from One a turn's Norm may be
)

// formed is whether all of a body may be but for its shape and its mass.
func formed(b api.Body) bool {
	return (b.Kind == api.Fixed || b.Kind == api.Moving) && within(b.Pose.At, api.Bound) && whole(b.Pose.Turn) &&
		between(b.Friction, 0, api.One) && within(b.P, maxMomentum) && within(b.L, maxMomentum)
}

// whole is whether a turn is about as long as One. (A Norm that is Bad is told as 0.)
func whole(q api.Quat) bool {
	var w fx.Work
	return between(w.Norm(q.W, q.X, q.Y, q.Z), api.One-turnOff, api.One+turnOff)
}

func massMayBe(m api.Mass) bool {
	return between(m.Mass, api.MinMass, api.MaxMass) && between(m.Inertia.X, minInertia, maxInertia) &&
		between(m.Inertia.Y, minInertia, maxInertia) && between(m.Inertia.Z, minInertia, maxInertia)
}

// within is whether no part of a is above most in size.
func within(a api.Vec, most int) bool {
	return between(a.X, -most, most) && between(a.Y, -most, most) && between(a.Z, -most, most)
}

func between(n, least, most int) bool { return least <= n && n <= most }
