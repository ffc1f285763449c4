package chain

import (
	"iter"

	"tumbler/api"
	"tumbler/fx"
)

// ground is the Parent of what hangs on no other link.
const ground = -1

// part is a link with what is told of it: the pose of its joint, where the joint's axis
// points and the link's middle is; how it turns, and how fast its joint and its middle
// are; and what is laid on the joint.
type part struct {
	api.Pose
	link               api.Link
	axis, middle       api.Vec
	spin, joint, speed api.Vec
	force, twist       api.Vec
	along              int
}

// hung is a chain, from the ground on.
type hung struct {
	work   *fx.Work
	ground *part
	parts  []part
}

func hang(w *fx.Work, l []api.Link) hung {
	still := part{Pose: api.Pose{Turn: api.Quat{W: api.One}}}
	return hung{work: w, ground: &still, parts: partsOf(l)}
}

func partsOf(l []api.Link) []part {
	var parts []part
	for _, x := range l {
		parts = append(parts, part{link: x})
	}
	return parts
}

// links are all parts, each with its parent. What hangs on a part stands behind it, so
// that a loop may ask the parent for what it told of it ahead.
func (h hung) links() iter.Seq2[*part, *part] {
	return func(yield func(p, parent *part) bool) {
		for i := range h.parts {
			p := &h.parts[i]
			if !yield(p, h.at(p.link.Parent)) {
				return
			}
		}
	}
}

func (h hung) at(place int) *part {
	if place == ground {
		return h.ground
	}
	return &h.parts[place]
}
