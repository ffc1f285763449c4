package world

import (
	"tumbler/api"
	"tumbler/joint"
	"tumbler/pairs"
	"tumbler/pool"
)

// clone is a world of its own for a step: what a step changes in place is copied, what
// it puts another one in place of is not.
func (w *World) clone() *World {
	c := *w
	c.bodies, c.queue = w.bodies.Clone(), w.queue.Clone()
	return &c
}

// wake wakes those of some bodies that may move. (Who is there no more is not woken.)
func (w *World) wake(l ...api.Handle) {
	for _, h := range l {
		if b, is := w.bodies.Get(h); is && mayMove(b) {
			w.bodies.Set(h, woken(b))
		}
	}
}

// checkJoint is whether a joint may be in this world, but for the room.
func (w *World) checkJoint(j api.Joint) api.Errno {
	if e := joint.Check(j); e != api.OK {
		return e
	}
	_, isA := w.bodies.Get(j.A)
	_, isB := w.bodies.Get(j.B)
	if !isA || !isB {
		return api.ErrPoolNone
	}
	return api.OK
}

// cores are those of all bodies that are not Out, with their handles.
func (w *World) cores() (l []api.Handle, cores []api.Core) {
	for h, b := range w.bodies.All() {
		if !b.Out {
			l, cores = append(l, h), append(cores, coreOf(b))
		}
	}
	return l, cores
}

// handles are all of a pool.
func handles[T any](p *pool.Pool[T]) []api.Handle {
	var l []api.Handle
	for h := range p.All() {
		l = append(l, h)
	}
	return l
}

// placeOf is the place in its pool of what has the handle h.
func placeOf(h api.Handle) int { return int(h-1) % api.MaxHandle }

// noPairs is a set with room for all pairs of bodies.
func noPairs() *pairs.Set {
	s, _ := pairs.New(pairsRoom) // a room that may be
	return s
}
