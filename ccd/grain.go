package ccd

import "tumbler/api"

const grainBits = 20 // how far a shift by a grain goes

// grains is a place in grains. (A shift to the right is down, below 0 too.)
func grains(v api.Vec) api.Point {
	return api.Point{X: v.X >> grainBits, Y: v.Y >> grainBits, Z: v.Z >> grainBits}
}

func less(p, q api.Point) api.Point { return api.Point{X: p.X - q.X, Y: p.Y - q.Y, Z: p.Z - q.Z} }
