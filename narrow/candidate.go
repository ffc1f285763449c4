package narrow

import (
	"iter"

	"tumbler/api"
	"tumbler/shape"
)

const (
	longPart = 1 << 19 // above which a direction is long
	few      = 2       // points: a ball, a capsule; they have no faces
)

// candidates goes through the long directions by which two may be told apart, each
// one with its other way round behind it.
func candidates(a, b api.Core) iter.Seq[api.Point] {
	return func(tell func(api.Point) bool) {
	through:
		for _, some := range [3]iter.Seq[api.Point]{each(a.Axes, b.Axes), crosses(a.Edges, b.Edges), ways(a, b)} {
			for n := range some {
				n = long(n)
				if n == (api.Point{}) {
					continue
				}
				if !tell(n) || !tell(back(n)) {
					break through
				}
			}
		}
	}
}

// each goes through directions, list by list.
func each(lists ...[]api.Point) iter.Seq[api.Point] {
	return func(tell func(api.Point) bool) {
	through:
		for _, l := range lists {
			for _, n := range l {
				if !tell(n) {
					break through
				}
			}
		}
	}
}

// crosses goes through what is across an edge of one and an edge of the other.
func crosses(edges, others []api.Point) iter.Seq[api.Point] {
	return func(tell func(api.Point) bool) {
	through:
		for _, e := range edges {
			for _, f := range others {
				if !tell(cross(e, f)) {
					break through
				}
			}
		}
	}
}

// ways goes through the ways from point to point, each with what is left of it
// across each edge; none, if both have faces that tell them apart.
func ways(a, b api.Core) iter.Seq[api.Point] {
	return func(tell func(api.Point) bool) {
		if len(a.Points) > few && len(b.Points) > few {
			return
		}
	through:
		for _, p := range a.Points {
			for _, q := range b.Points {
				d := shape.Short(less(q, p))
				if !tell(d) {
					break through
				}
				for e := range each(a.Edges, b.Edges) {
					if !tell(cross(shape.Short(cross(e, d)), e)) {
						break through
					}
				}
			}
		}
	}
}

// long is a direction made short, and doubled till it is long; noughts stay so. No
// candidate is too long to be made short: the parts of what is crossed are at most
// 2^20, so that those of a cross are at most 2^41.
func long(n api.Point) api.Point {
	n = shape.Short(n)
	if n == (api.Point{}) {
		return n
	}
	for within(n, longPart) {
		n = plus(n, n)
	}
	return n
}
