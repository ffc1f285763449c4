package pose

import (
	"tumbler/api"
	"tumbler/fx"
	"tumbler/shape"
	"tumbler/vec"
)

const (
	maxPart = 1 << 20 // of a point that is placed
	maxNear = 1 << 23 // of a point that comes out

	grainBits = 20 // how far a shift by a grain goes

	// Directions have no length, so that they are turned as long ones, and with
	// more places than they have: less of them is lost.
	longPart   = 1 << 19
	morePlaces = 1 << 12
)

// frame is a pose made ready to place with; its work is Bad once something could
// not be reckoned.
type frame struct {
	work fx.Work
	rows api.Mat
	at   api.Vec
}

func framed(p api.Pose) *frame {
	f := &frame{at: p.At}
	f.rows = vec.Rows(&f.work, p.Turn)
	return f
}

// placeable is whether a core has points, and nothing of it is too great to be
// placed anywhere.
func placeable(c api.Core) bool {
	return len(c.Points) > 0 && allWithin(c.Points, maxPart) &&
		allWithin(c.Axes, api.MaxAxis) && allWithin(c.Edges, api.MaxAxis)
}

// point is where p is in the frame. (A shift to the right is down, below 0 too.)
func (f *frame) point(p api.Point) api.Point {
	at := vec.Add(&f.work, f.turned(p, api.Grain), f.at)
	return api.Point{X: at.X >> grainBits, Y: at.Y >> grainBits, Z: at.Z >> grainBits}
}

// directions are those of l as they look in the frame, but those of noughts.
func (f *frame) directions(l []api.Point) []api.Point {
	var out []api.Point
	for n := range each(l, f.direction) {
		if n != (api.Point{}) {
			out = append(out, n)
		}
	}
	return out
}

func (f *frame) direction(n api.Point) api.Point {
	t := f.turned(long(n), morePlaces)
	return shape.Short(api.Point{X: t.X / morePlaces, Y: t.Y / morePlaces, Z: t.Z / morePlaces})
}

// turned is p, each part so many times, turned as the frame is.
func (f *frame) turned(p api.Point, times int) api.Vec {
	return vec.Turn(&f.work, f.rows, api.Vec{X: p.X * times, Y: p.Y * times, Z: p.Z * times})
}

// long is a direction, doubled till it is long; noughts would never be.
func long(n api.Point) api.Point {
	if n == (api.Point{}) {
		return n
	}
	for within(n, longPart) {
		n = plus(n, n)
	}
	return n
}
