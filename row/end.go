package row

import (
	"tumbler/api"
	"tumbler/body"
	"tumbler/fx"
	"tumbler/vec"
)

// The places of a row's two ends.
const (
	endA = 0
	endB = 1
)

// end is one of the two bodies of a row. What one of them gets the other one gets the
// other way round: so each has a function for what comes to it, and nobody who has an
// end asks which one it is.
type end struct {
	body  *api.Body
	arm   api.Vec
	share func(w *fx.Work, impulse api.Vec) api.Vec
}

func bothOf(r api.Row, l []api.Body) [2]end {
	return [2]end{
		endA: {body: bodyAt(l, r.A), arm: r.ArmA, share: reversed},
		endB: {body: bodyAt(l, r.B), arm: r.ArmB, share: asItIs},
	}
}

// bodyAt is the body at a place of l; where l has none it is nobody, who may be
// written into, but of whom nothing is left.
func bodyAt(l []api.Body, place int) *api.Body {
	if isPlace(place, len(l)) {
		return &l[place]
	}
	return &api.Body{Kind: api.Fixed}
}

func reversed(w *fx.Work, impulse api.Vec) api.Vec { return vec.Sub(w, api.Vec{}, impulse) }

func asItIs(_ *fx.Work, impulse api.Vec) api.Vec { return impulse }

// pace is how fast the end turns, or how fast the body is at its arm.
func (e end) pace(w *fx.Work, turn bool) api.Vec {
	spin := body.Spin(w, *e.body)
	if turn {
		return spin
	}
	return vec.Add(w, body.Speed(w, *e.body), vec.Cross(w, spin, e.arm))
}

// weights are the parts of a row's weight that come from this end: none, if it can
// not be moved.
func (e end) weights(w *fx.Work, r api.Row) []int {
	switch {
	case e.body.Kind != api.Moving:
		return nil
	case r.Turn:
		return []int{e.yield(w, r.Way)}
	}
	return []int{w.Div(api.One, e.body.Mass.Mass), e.yield(w, vec.Cross(w, e.arm, r.Way))}
}

// yield is how much an angular impulse of l speeds the end's turning along l.
func (e end) yield(w *fx.Work, l api.Vec) int { return vec.Dot(w, l, body.Yield(w, *e.body, l)) }

// take gives the end what comes to it of an impulse. Only the momenta are taken over:
// the body keeps its own points.
func (e end) take(w *fx.Work, impulse api.Vec, turn bool) {
	out, own := *e.body, e.share(w, impulse)
	if turn {
		out = body.Twist(w, out, own)
	} else {
		out = body.Push(w, out, e.arm, own)
	}
	e.body.P, e.body.L = out.P, out.L
}
