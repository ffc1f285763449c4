package solver

import (
	"tumbler/api"
	"tumbler/fx"
	"tumbler/vec"
)

const (
	maxPress = 1 << 44 // of the impulse by which a spot presses
	maxDepth = 1 << 20 // of a spot, in grains
	borne    = 1       // how many grains deep two may stay in one another
	maxOut   = api.One // how fast they come out at the most
	outRate  = 8 * api.Grain
	nearRate = api.Grain * api.One / api.Step // closes a gap of a grain in just one step
)

// touch is a patch with both of its bodies: the way along which it presses, those
// along which it rubs, if it does, and where its first row will be.
type touch struct {
	work       *fx.Work
	press      api.Vec
	across     []api.Vec
	a, b       int
	bodies     []api.Body
	rub, first int
}

// add adds a spot's rows to those of the spots ahead of it.
func (t touch) add(rows []api.Row, s api.Spot) []api.Row {
	at := times(t.work, s.At, api.Grain)
	like := api.Row{A: t.a, B: t.b, ArmA: t.arm(at, t.a), ArmB: t.arm(at, t.b)}
	ahead := len(rows)
	rows = append(rows, t.presses(like, s.Depth))
	for _, way := range t.across {
		like.Way, like.Of, like.Rub = way, t.work.Add(t.first, ahead), t.rub
		rows = append(rows, like)
	}
	return rows
}

func (t touch) presses(like api.Row, depth int) api.Row {
	like.Way, like.Goal = t.press, goal(t.work, depth)
	like.High, like.Of = maxPress, -1
	return like
}

// arm is from the middle of the body at a place to a spot; nobody has none.
func (t touch) arm(at api.Vec, place int) api.Vec {
	if place < 0 || place >= len(t.bodies) {
		return api.Vec{}
	}
	return vec.Sub(t.work, at, t.bodies[place].Pose.At)
}

// goal is how fast two are to come apart. Those that are not yet in one another may
// come nearer, but no further than to touch in a step.
func goal(w *fx.Work, depth int) int {
	switch {
	case depth < -maxDepth || depth > maxDepth:
		w.Bad = true
		return 0
	case depth > borne:
		return min(maxOut, (depth-borne)*outRate)
	case depth < 0:
		return depth * nearRate
	}
	return 0
}
