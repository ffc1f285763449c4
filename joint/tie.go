package joint

import (
	"tumbler/api"
	"tumbler/fx"
	"tumbler/vec"
)

const (
	back    = -8 * api.One // how fast what is off comes back, of how far it is off
	maxHold = 1 << 44      // of the impulse by which a row holds
)

// end is one of the two bodies of a joint: how it is turned, and where it is held.
type end struct {
	turn       api.Quat
	m          api.Mat
	arm, point api.Vec
}

func endOf(w *fx.Work, p api.Pose, at api.Vec) end {
	m := vec.Rows(w, p.Turn)
	arm := vec.Turn(w, m, at)
	return end{turn: p.Turn, m: m, arm: arm, point: vec.Add(w, p.At, arm)}
}

// tie is a joint with both of its bodies as they stand; blank is what all of its rows
// begin with.
type tie struct {
	work  *fx.Work
	joint api.Joint
	a, b  end
	blank api.Row
}

// rows are told by the joint's kind: whatever else is wished of how two are turned,
// all but a Rope hold them at one point.
func (t tie) rows() (rows []api.Row) {
	switch t.joint.Kind {
	case api.Rope:
		rows = t.rope()
	case api.Hinge, api.Weld:
		rows = t.turns()
		fallthrough
	case api.Socket:
		rows = append(t.socket(), rows...)
	}
	return rows
}

// rope is a row that pulls, if the rope is taut. (Long is never below 0, so that
// the gap of one that is taut has a direction.)
func (t tie) rope() []api.Row {
	gap := t.gap()
	far := vec.Len(t.work, gap)
	if far <= t.joint.Long {
		return nil
	}
	r := t.armed()
	r.Way = vec.Unit(t.work, gap)
	r.Goal = t.work.Mul(t.work.Sub(far, t.joint.Long), back)
	r.Low = -maxHold
	return []api.Row{r}
}

func (t tie) socket() []api.Row { return t.held(t.armed(), t.gap(), axes()...) }

func (t tie) turns() []api.Row {
	if t.joint.Kind == api.Hinge {
		return t.hinge()
	}
	return t.weld()
}

// hinge is two rows that keep B's axis on A's, and its motor, if it has a force.
func (t tie) hinge() []api.Row {
	axis := vec.Turn(t.work, t.a.m, t.joint.AxisA)
	off := vec.Cross(t.work, axis, vec.Turn(t.work, t.b.m, t.joint.AxisB))
	rows := t.held(t.turning(), off, across(t.work, axis)...)
	if t.joint.Force > 0 {
		r := t.turning()
		r.Way, r.Goal = axis, t.joint.Motor
		r.Low, r.High = -t.joint.Force, t.joint.Force
		rows = append(rows, r)
	}
	return rows
}

// weld is three rows that keep B turned as A is. A turn and what has all four parts
// the other way round turn alike: of both the one that is the shorter way is taken.
func (t tie) weld() []api.Row {
	q := vec.Times(t.work, t.b.turn, conjugate(t.work, t.a.turn))
	half := api.Vec{X: q.X, Y: q.Y, Z: q.Z}
	if q.W < 0 {
		half = vec.Sub(t.work, api.Vec{}, half)
	}
	return t.held(t.turning(), vec.Add(t.work, half, half), axes()...)
}

// held is a row along each way, like the one that is given, by which what is off
// comes back.
func (t tie) held(like api.Row, off api.Vec, ways ...api.Vec) []api.Row {
	goal := vec.Scale(t.work, off, back)
	like.Low, like.High = -maxHold, maxHold
	var rows []api.Row
	for _, way := range ways {
		like.Way, like.Goal = way, vec.Dot(t.work, way, goal)
		rows = append(rows, like)
	}
	return rows
}

// gap is from where A is held to where B is.
func (t tie) gap() api.Vec { return vec.Sub(t.work, t.b.point, t.a.point) }

// armed is a row that pushes both where they are held.
func (t tie) armed() api.Row {
	r := t.blank
	r.ArmA, r.ArmB = t.a.arm, t.b.arm
	return r
}

// turning is a row that turns both, without pushing.
func (t tie) turning() api.Row {
	r := t.blank
	r.Turn = true
	return r
}
