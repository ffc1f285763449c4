package world

import "tumbler/api"

// list is numbers that tell something, one behind the other.
type list []int

func (l *list) add(n ...int) { *l = append(*l, n...) }

func (l *list) vecs(vs ...api.Vec) {
	for _, v := range vs {
		l.add(v.X, v.Y, v.Z)
	}
}

func (l *list) points(ps ...api.Point) {
	for _, p := range ps {
		l.add(p.X, p.Y, p.Z)
	}
}

func (l *list) flags(fs ...bool) {
	for _, f := range fs {
		if f {
			l.add(1)
		} else {
			l.add(0)
		}
	}
}

func (l *list) ground(g *ground) {
	if g == nil {
		l.add(0, 0)
		return
	}
	l.add(len(g.points))
	l.points(g.points...)
	l.add(len(g.tris))
	for _, t := range g.tris {
		l.add(t[:]...)
	}
}

func (l *list) body(b api.Body) {
	turn, s := b.Pose.Turn, b.Shape
	l.add(b.Kind)
	l.vecs(b.Pose.At)
	l.add(turn.W, turn.X, turn.Y, turn.Z)
	l.vecs(b.P, b.L)
	l.add(b.Mass.Mass)
	l.vecs(b.Mass.Inertia)
	l.add(s.Kind, s.Radius)
	l.points(s.Half)
	l.add(len(s.Points))
	l.points(s.Points...)
	l.add(b.Group, b.Mask, b.Friction)
	l.flags(b.Fast, b.Asleep, b.Out)
	l.add(b.Quiet)
}

func (l *list) joint(j api.Joint) {
	l.add(j.Kind, int(j.A), int(j.B))
	l.vecs(j.AtA, j.AtB, j.AxisA, j.AxisB)
	l.add(j.Long, j.Motor, j.Force)
}

// Ints are all of it, as numbers.
func (w *World) Ints() []int {
	var l list
	l.vecs(w.pull)
	l.add(w.steps)
	l.vecs(w.book)
	l.ground(w.ground)
	l.add(w.bodies.Len())
	for h, b := range w.bodies.All() {
		l.add(int(h))
		l.body(b)
	}
	l.add(w.joints.Len())
	for h, j := range w.joints.All() {
		l.add(int(h))
		l.joint(j)
	}
	l.add(w.touching.Len())
	for p := range w.touching.All() {
		l.add(int(p.A), int(p.B))
	}
	return l
}
