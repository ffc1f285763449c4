package world

import (
	"slices"

	"tumbler/api"
	"tumbler/body"
	"tumbler/event"
	"tumbler/fx"
	"tumbler/island"
	"tumbler/joint"
	"tumbler/pairs"
	"tumbler/solver"
	"tumbler/vec"
)

const sweeps = 8

// step is a step while it is done. The bodies are told by their places in the list,
// which are in the order of the pool's.
type step struct {
	world   *World // a copy: what is done shows there when it is told
	work    *fx.Work
	handles []api.Handle
	bodies  []api.Body
	cores   []api.Core // where the bodies are when the step begins
	met     []met
	groups  []int
	now     *pairs.Set // who touches now
	events  []api.Event
}

func newStep(w *World) *step {
	s := &step{world: w, work: &fx.Work{}, now: noPairs()}
	for h, b := range w.bodies.All() {
		s.handles, s.bodies, s.cores = append(s.handles, h), append(s.bodies, b), append(s.cores, coreOf(b))
	}
	return s
}

// do does all parts of a step, up to the first one that can not be done.
func (s *step) do() api.Errno {
	for _, part := range []func() api.Errno{s.fall, s.meet, s.gather, s.stand, s.press, s.move, s.rest, s.tell} {
		if e := part(); e != api.OK {
			return e
		}
		if s.work.Bad {
			return api.ErrRange
		}
	}
	return api.OK
}

func (s *step) fall() api.Errno {
	for i, b := range s.bodies {
		if awake(b) {
			s.bodies[i] = body.Fall(s.work, b, s.world.pull, api.Step)
		}
	}
	return api.OK
}

// gather finds out who hangs together, and wakes those who do with somebody awake.
func (s *step) gather() api.Errno {
	var links [][2]int
	for _, m := range s.met {
		links = append(links, [2]int{m.a, m.b})
	}
	for _, j := range s.world.joints.All() {
		links = append(links, [2]int{s.place(j.A), s.place(j.B)}) // a wall joins nothing
	}
	var walls []bool
	for _, b := range s.bodies {
		walls = append(walls, !mayMove(b))
	}
	s.groups = island.Groups(len(s.bodies), links, walls)
	for _, of := range s.awakened() {
		for _, i := range island.Members(s.groups, of) {
			if s.bodies[i].Asleep {
				s.bodies[i] = woken(s.bodies[i])
			}
		}
	}
	return api.OK
}

// awakened are the groups in which somebody is awake.
func (s *step) awakened() []int {
	var out []int
	for i, b := range s.bodies {
		if awake(b) && !slices.Contains(out, s.groups[i]) {
			out = append(out, s.groups[i])
		}
	}
	return out
}

// press makes rows of what touches and of what is joined, and solves them.
func (s *step) press() api.Errno {
	var rows []api.Row
	for _, m := range s.met {
		rub := s.work.Mul(s.friction(m.a), s.friction(m.b))
		rows = append(rows, solver.Rows(s.work, m.patch, m.a, m.b, s.bodies, rub, len(rows))...)
	}
	for _, j := range s.world.joints.All() {
		a, b := s.place(j.A), s.place(j.B)
		if s.holds(a, b) {
			rows = append(rows, joint.Rows(s.work, j, a, b, s.bodies)...)
		}
	}
	solver.Solve(s.work, rows, s.bodies, sweeps)
	return api.OK
}

// holds is whether a joint of two has something to do.
func (s *step) holds(a, b int) bool {
	x, y := s.bodies[a], s.bodies[b]
	return !x.Out && !y.Out && (awake(x) || awake(y))
}

func (s *step) friction(place int) int {
	if place == nobody {
		return api.One
	}
	return s.bodies[place].Friction
}

// tell lays what was done into the world, and what happened by it into its queue.
func (s *step) tell() api.Errno {
	w := s.world
	for i, h := range s.handles {
		old, _ := w.bodies.Get(h)
		w.book = vec.Add(s.work, w.book, vec.Sub(s.work, s.bodies[i].P, old.P))
		w.bodies.Set(h, s.bodies[i])
	}
	s.events = append(s.events, event.Diff(w.touching, s.now)...)
	w.touching = s.now
	w.steps++
	return w.queue.Push(s.events...)
}

// place is where in the list the body with the handle h stands. (Whom a pair or a joint
// names is there.)
func (s *step) place(h api.Handle) int { return slices.Index(s.handles, h) }
