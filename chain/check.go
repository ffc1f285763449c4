package chain

import (
	"tumbler/api"
	"tumbler/fx"
	"tumbler/vec"
)

const (
	maxPart  = 1 << 36 // of At and of Middle
	maxSlide = 1 << 36 // of the Angle of what slides: a way
	maxAngle = 1 << 34 // of the Angle of what turns: a tangent
	maxSpeed = 1 << 36 // of Speed and of Quicken
	axisOff  = 8       // how far from One an axis' Len may be
)

// formed is whether all links may be, and hang on what is ahead of them.
func formed(l []api.Link) bool {
	if len(l) > api.MaxLinks {
		return false
	}
	for i, x := range l {
		if !between(x.Parent, ground, i-1) || !sound(x) {
			return false
		}
	}
	return true
}

// sound is whether a link may be, whatever it hangs on.
func sound(x api.Link) bool {
	return whole(x.Axis) && within(x.At, maxPart) && within(x.Middle, maxPart) &&
		upTo(x.Angle, mostAngle(x)) && upTo(x.Speed, maxSpeed) && upTo(x.Quicken, maxSpeed) &&
		between(x.Mass, api.MinMass, api.MaxMass)
}

func mostAngle(x api.Link) int {
	if x.Slides {
		return maxSlide
	}
	return maxAngle
}

// whole is whether an axis is about as long as One. (A Len that is Bad is told as 0.)
func whole(axis api.Vec) bool {
	return between(vec.Len(&fx.Work{}, axis), api.One-axisOff, api.One+axisOff)
}

// within is whether no part of a is above most in size.
func within(a api.Vec, most int) bool { return upTo(a.X, most) && upTo(a.Y, most) && upTo(a.Z, most) }

// upTo is whether n is not above most in size.
func upTo(n, most int) bool { return between(n, -most, most) }

func between(n, least, most int) bool { return least <= n && n <= most }
