package world

import (
	"tumbler/api"
	"tumbler/fx"
	"tumbler/vec"
)

const maxInts = 4000

// reader takes numbers one by one. It is bad from the first one on that may not be, or
// is not there; what it tells then is not to be used.
type reader struct {
	rest []int
	bad  bool
}

func (r *reader) refuse(is bool) { r.bad = r.bad || is }

func (r *reader) next() int {
	if len(r.rest) == 0 {
		r.bad = true
		return 0
	}
	n := r.rest[0]
	r.rest = r.rest[1:]
	return n
}

// count is how many things follow. Of each there is at least one number: more than
// there are numbers there can not be.
func (r *reader) count() int {
	n := r.next()
	r.refuse(n < 0 || n > len(r.rest))
	if r.bad {
		return 0
	}
	return n
}

func (r *reader) flag() bool {
	n := r.next()
	r.refuse(n != 0 && n != 1)
	return n == 1
}

func (r *reader) handle() api.Handle { return api.Handle(r.next()) }

func (r *reader) vec() api.Vec { return api.Vec{X: r.next(), Y: r.next(), Z: r.next()} }

func (r *reader) points() []api.Point {
	l := make([]api.Point, r.count())
	for i := range l {
		l[i] = api.Point(r.vec())
	}
	return l
}

func (r *reader) tris() [][3]int {
	l := make([][3]int, r.count())
	for i := range l {
		l[i] = [3]int{r.next(), r.next(), r.next()}
	}
	return l
}

func (r *reader) body() api.Body {
	return api.Body{
		Kind:     r.next(),
		Pose:     api.Pose{At: r.vec(), Turn: api.Quat{W: r.next(), X: r.next(), Y: r.next(), Z: r.next()}},
		P:        r.vec(),
		L:        r.vec(),
		Mass:     api.Mass{Mass: r.next(), Inertia: r.vec()},
		Shape:    api.Shape{Kind: r.next(), Radius: r.next(), Half: api.Point(r.vec()), Points: r.points()},
		Group:    r.next(),
		Mask:     r.next(),
		Friction: r.next(),
		Fast:     r.flag(),
		Asleep:   r.flag(),
		Out:      r.flag(),
		Quiet:    r.next(),
	}
}

func (r *reader) joint() api.Joint {
	return api.Joint{
		Kind: r.next(), A: r.handle(), B: r.handle(),
		AtA: r.vec(), AtB: r.vec(), AxisA: r.vec(), AxisB: r.vec(),
		Long: r.next(), Motor: r.next(), Force: r.next(),
	}
}

// Of is the world of such numbers as Ints tells.
func Of(l []int) (*World, api.Errno) {
	r := &reader{rest: l, bad: len(l) > maxInts}
	w := r.world()
	if r.bad || len(r.rest) > 0 {
		return nil, api.ErrSnapForm
	}
	return w, api.OK
}

func (r *reader) world() *World {
	w, e := New(r.vec())
	r.refuse(e != api.OK)
	if r.bad {
		return nil
	}
	w.steps, w.book = r.next(), r.vec()
	r.refuse(w.steps < 0 || w.steps > maxSteps)
	r.groundInto(w)
	r.bodiesInto(w)
	r.jointsInto(w)
	r.pairsInto(w)
	return w
}

func (r *reader) groundInto(w *World) {
	points, tris := r.points(), r.tris()
	if len(points)+len(tris) > 0 {
		r.refuse(w.Land(points, tris) != api.OK)
	}
}

// bodiesInto lays the bodies, and holds the book against the sum of their momenta.
func (r *reader) bodiesInto(w *World) {
	work := &fx.Work{}
	var sum api.Vec
	last := -1
	for range r.count() {
		h, b := r.handle(), r.body()
		r.refuse(check(work, b) != api.OK || !stateMayBe(b) || !w.bodies.Lay(h, b))
		r.refuse(placeOf(h) <= last)
		if r.bad {
			return
		}
		last, sum = placeOf(h), vec.Add(work, sum, b.P)
	}
	r.refuse(sum != w.book)
}

// stateMayBe is whether a body may have come to this by steps.
func stateMayBe(b api.Body) bool {
	rests := b.Asleep || b.Out
	moves := b.P != (api.Vec{}) || b.L != (api.Vec{})
	switch {
	case b.Quiet < 0 || b.Quiet > maxQuiet:
		return false
	case rests && b.Kind != api.Moving:
		return false
	}
	return !moves || !rests && b.Kind == api.Moving
}

func (r *reader) jointsInto(w *World) {
	last := -1
	for range r.count() {
		h, j := r.handle(), r.joint()
		r.refuse(w.checkJoint(j) != api.OK || !w.joints.Lay(h, j) || placeOf(h) <= last)
		if r.bad {
			return
		}
		last = placeOf(h)
	}
}

func (r *reader) pairsInto(w *World) {
	var last api.Pair
	for range r.count() {
		p := api.Pair{A: r.handle(), B: r.handle()}
		_, isA := w.bodies.Get(p.A)
		_, isB := w.bodies.Get(p.B)
		_, e := w.touching.Put(p)
		r.refuse(!isA || !isB || e != api.OK || p.A < last.A || p.A == last.A && p.B <= last.B)
		if r.bad {
			return
		}
		last = p
	}
}
