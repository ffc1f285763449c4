package chain

import (
	"slices"

	"tumbler/api"
	"tumbler/fx"
	"tumbler/vec"
)

// stand tells where all are.
func stand(h hung) []part {
	w := h.work
	for p, parent := range h.links() {
		m := vec.Rows(w, parent.Turn)
		p.axis = vec.Turn(w, m, p.link.Axis)
		p.At, p.Turn = vec.Add(w, parent.At, vec.Turn(w, m, p.link.At)), parent.Turn
		if p.link.Slides {
			p.At = vec.Add(w, p.At, vec.Scale(w, p.axis, p.link.Angle))
		} else {
			p.Turn = vec.Times(w, p.Turn, turned(w, p.link))
		}
		p.middle = vec.Add(w, p.At, vec.Turn(w, vec.Rows(w, p.Turn), p.link.Middle))
	}
	return h.parts
}

// turned is how a link's joint turns it.
func turned(w *fx.Work, x api.Link) api.Quat {
	half := vec.Scale(w, x.Axis, x.Angle)
	return vec.Whole(w, api.Quat{W: api.One, X: half.X, Y: half.Y, Z: half.Z})
}

// move tells, of all where they stand, how they turn, and how fast they are.
func move(h hung) []part {
	stand(h)
	w := h.work
	for p, parent := range h.links() {
		carried := vec.Cross(w, parent.spin, vec.Sub(w, p.At, parent.At))
		p.spin, p.joint = parent.spin, vec.Add(w, parent.joint, carried)
		own := vec.Scale(w, p.axis, p.link.Speed)
		if p.link.Slides {
			p.joint = vec.Add(w, p.joint, own)
		} else {
			p.spin = vec.Add(w, p.spin, own)
		}
		p.speed = vec.Add(w, p.joint, vec.Cross(w, p.spin, vec.Sub(w, p.middle, p.At)))
	}
	return h.parts
}

func momentum(h hung) api.Vec {
	var sum api.Vec
	for _, p := range move(h) {
		sum = vec.Add(h.work, sum, vec.Scale(h.work, p.speed, p.link.Mass))
	}
	return sum
}

// load tells, of all where they stand, what a pull lays on their joints: from the last
// one on, as a joint bears all that hangs on its link.
func load(h hung, pull api.Vec) []part {
	stand(h)
	for i := range slices.Backward(h.parts) {
		bear(h, &h.parts[i], pull)
	}
	return h.parts
}

func bear(h hung, p *part, pull api.Vec) {
	w := h.work
	p.force = vec.Scale(w, pull, p.link.Mass)
	p.twist = vec.Cross(w, vec.Sub(w, p.middle, p.At), p.force)
	for child, parent := range h.links() {
		if parent != p {
			continue
		}
		p.force = vec.Add(w, p.force, child.force)
		p.twist = vec.Add(w, p.twist, child.twist)
		p.twist = vec.Add(w, p.twist, vec.Cross(w, vec.Sub(w, child.At, p.At), child.force))
	}
	p.along = vec.Dot(w, p.axis, borne(p))
}

// borne is what counts along the joint's axis: a slide is moved by a force, all else is
// turned.
func borne(p *part) api.Vec {
	if p.link.Slides {
		return p.force
	}
	return p.twist
}
