package world

import (
	"tumbler/api"
	"tumbler/body"
	"tumbler/ccd"
	"tumbler/island"
	"tumbler/pose"
	"tumbler/vec"
)

const (
	whole    = 16      // a way is told in sixteenths
	slow     = 1 << 25 // FX: who moves and turns slower is quiet
	maxQuiet = 1 << 30
)

// move lets all that are awake go where their momenta lead them.
func (s *step) move() api.Errno {
	for i, b := range s.bodies {
		if awake(b) && !s.goes(i) {
			return api.ErrRange
		}
	}
	return api.OK
}

// goes moves one; false: it could not be placed where it comes to.
func (s *step) goes(i int) bool {
	b, cut := body.Cap(s.work, s.bodies[i])
	if cut {
		s.happens(api.EventClamp, i)
	}
	old := b.Pose
	b = body.Go(s.work, b, api.Step)
	if b.Fast {
		b = s.held(i, b, old.At)
	}
	// What turned has another inertia along its spin: it may be too fast by that.
	b, again := body.Cap(s.work, b)
	if again && !cut {
		s.happens(api.EventClamp, i)
	}
	is := true
	if body.Gone(b) {
		b.Pose, b.Out = old, true
		b = still(b)
		s.happens(api.EventOut, i)
	} else {
		_, is = placed(b.Shape, b.Pose)
	}
	s.bodies[i] = b
	return is
}

// held is a fast ball that came to its place from another one, if nothing was in its
// way; else as far as it could go.
func (s *step) held(i int, b api.Body, from api.Vec) api.Body {
	var walls []api.Core
	for j, c := range s.bodies {
		if c.Kind == api.Fixed && mayTouch(b, c) {
			walls = append(walls, s.cores[j])
		}
	}
	both := pose.Join(pose.Span(s.cores[i]), pose.Span(coreOf(b)))
	walls = append(walls, s.world.ground.near(both)...)
	at, part := ccd.Hold(s.work, from, b.Pose.At, b.Shape.Radius, walls)
	if part < whole {
		s.happens(api.EventHeld, i)
	}
	b.Pose.At = at
	return b
}

// happens notes what happened to one alone.
func (s *step) happens(kind, i int) {
	s.events = append(s.events, api.Event{Kind: kind, A: s.handles[i]})
}

// rest counts for how long bodies were quiet, and lets those rest whose whole group was
// for long enough. Who is not awake keeps nobody from it.
func (s *step) rest() api.Errno {
	quiets := make([]int, len(s.bodies))
	for i, b := range s.bodies {
		quiets[i] = maxQuiet
		if awake(b) {
			s.bodies[i].Quiet = s.quietFor(b)
			quiets[i] = s.bodies[i].Quiet
		}
	}
	for i, may := range island.Rest(s.groups, quiets, api.SleepAt) {
		if may && awake(s.bodies[i]) {
			s.bodies[i] = still(s.bodies[i])
			s.bodies[i].Asleep = true
		}
	}
	return api.OK
}

// quietFor is for how many steps a body was quiet, this one too.
func (s *step) quietFor(b api.Body) int {
	speed, spin := vec.Len(s.work, body.Speed(s.work, b)), vec.Len(s.work, body.Spin(s.work, b))
	if speed >= slow || spin >= slow {
		return 0
	}
	return min(b.Quiet+1, maxQuiet)
}

// still is the body without momentum.
func still(b api.Body) api.Body {
	b.P, b.L = api.Vec{}, api.Vec{}
	return b
}
