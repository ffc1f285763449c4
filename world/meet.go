package world

import (
	"tumbler/api"
	"tumbler/contact"
	"tumbler/narrow"
	"tumbler/pairs"
	"tumbler/pose"
)

const (
	reach  = 16 // grains: so far apart two have a patch still
	margin = 8  // grains: half of that, around each of two bodies

	maxPatches = 128 // those with the ground, too
)

// met is where two touch, and how far they are from one another: of the bodies at two
// places of a step's list.
type met struct {
	a, b  int
	patch api.Patch
	gap   int
}

// nobody is the place of what is no body.
const nobody = -1

// between is where the cores of two bodies touch; false: they are too far apart.
func between(a, b api.Core) (met, bool) {
	if !pose.Meet(pose.Grown(pose.Span(a), margin), pose.Grown(pose.Span(b), margin)) {
		return met{}, false
	}
	return meet(a, b)
}

// meet is where two cores touch, wherever they are.
func meet(a, b api.Core) (met, bool) {
	x, is := narrow.Apart(a, b)
	if !is {
		return met{}, false
	}
	p, is := contact.Touch(a, b, x, reach)
	return met{patch: p, gap: x.Gap}, is
}

// meet finds the patches of bodies with one another, and so who touches now. Of two
// that both do not move nothing is asked: they touch as they did.
func (s *step) meet() api.Errno {
	for i, a := range s.bodies {
		for j := i + 1; j < len(s.bodies); j++ {
			b := s.bodies[j]
			if !mayTouch(a, b) || !awake(a) && !awake(b) {
				continue
			}
			if m, is := between(s.cores[i], s.cores[j]); is {
				m.a, m.b = i, j
				s.met = append(s.met, m)
			}
		}
	}
	if len(s.met) > api.MaxPairs {
		return api.ErrPairsFull
	}
	for _, m := range s.met {
		if m.gap <= 0 {
			s.now.Put(pairs.Of(s.handles[m.a], s.handles[m.b]))
		}
	}
	for p := range s.world.touching.All() {
		a, b := s.bodies[s.place(p.A)], s.bodies[s.place(p.B)]
		if mayTouch(a, b) && !awake(a) && !awake(b) {
			s.now.Put(p)
		}
	}
	return api.OK
}

// stand finds the patches with the ground.
func (s *step) stand() api.Errno {
	for i, b := range s.bodies {
		if !awake(b) {
			continue
		}
		for _, c := range s.world.ground.near(pose.Span(s.cores[i])) {
			if m, is := meet(c, s.cores[i]); is {
				m.a, m.b = nobody, i
				s.met = append(s.met, m)
			}
		}
	}
	if len(s.met) > maxPatches {
		return api.ErrPairsFull
	}
	return api.OK
}
