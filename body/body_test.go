package body_test

import (
	"math"
	"reflect"
	"testing"

	"tumbler/api"
	"tumbler/body"
	"tumbler/fx"
)

const (
	one  = api.One
	most = api.Most
)

// v and q are vectors and turns, written shortly.
func v(x, y, z int) api.Vec { return api.Vec{X: x, Y: y, Z: z} }

func q(w, x, y, z int) api.Quat { return api.Quat{W: w, X: x, Y: y, Z: z} }

// some is a Moving body that may be; all of its fields are told.
func some() api.Body {
	return api.Body{
		Kind: api.Moving, Pose: api.Pose{At: v(one, -2*one, 3*one), Turn: q(one, 0, 0, 0)}, P: v(5*one, -6*one, 7*one), L: v(8*one, 9*one, -10*one),
		Mass:  api.Mass{Mass: 2 * one, Inertia: v(one, 2*one, 4*one)},
		Shape: api.Shape{Kind: api.Hull, Radius: 9, Half: api.Point{X: 1, Y: 2, Z: 3}, Points: []api.Point{{}, {X: 4}, {Y: 4}, {Z: 4}}},
		Group: 3, Mask: 5, Friction: one / 2, Fast: true, Quiet: 7, Asleep: true, Out: true,
	}
}

// with is some body, changed.
func with(change func(b *api.Body)) api.Body {
	b := some()
	change(&b)
	return b
}

// still is some body of a Kind that does not move.
func still(kind int) api.Body { return with(func(b *api.Body) { b.Kind = kind }) }

// same is whether two bodies are: lists are, if their elements are.
func same(a, b api.Body) bool {
	if len(a.Shape.Points) == 0 && len(b.Shape.Points) == 0 {
		a.Shape.Points, b.Shape.Points = nil, nil
	}
	return reflect.DeepEqual(a, b)
}

// call is one call on a work, with what it must tell, and whether it makes the work
// Bad.
type call struct {
	name string
	do   func(w *fx.Work) any
	want any
	bad  bool
}

func speed(b api.Body, want api.Vec) call {
	return call{"Speed", func(w *fx.Work) any { return body.Speed(w, b) }, want, false}
}

func spin(b api.Body, want api.Vec) call {
	return call{"Spin", func(w *fx.Work) any { return body.Spin(w, b) }, want, false}
}

func yield(b api.Body, l, want api.Vec) call {
	return call{"Yield", func(w *fx.Work) any { return body.Yield(w, b, l) }, want, false}
}

func push(b api.Body, arm, impulse api.Vec, want api.Body) call {
	return call{"Push", func(w *fx.Work) any { return body.Push(w, b, arm, impulse) }, want, false}
}

func twist(b api.Body, impulse api.Vec, want api.Body) call {
	return call{"Twist", func(w *fx.Work) any { return body.Twist(w, b, impulse) }, want, false}
}

func fall(b api.Body, pull api.Vec, time int, want api.Body) call {
	return call{"Fall", func(w *fx.Work) any { return body.Fall(w, b, pull, time) }, want, false}
}

func goes(b api.Body, time int, want api.Body) call {
	return call{"Go", func(w *fx.Work) any { return body.Go(w, b, time) }, want, false}
}

// capped is what Cap tells.
type capped struct {
	of  api.Body
	cut bool
}

func caps(b, want api.Body, cut bool) call {
	return call{"Cap", func(w *fx.Work) any { of, cut := body.Cap(w, b); return capped{of, cut} }, capped{want, cut}, false}
}

// bad is a call that must make the work Bad.
func bad(c call) call {
	c.bad = true
	return c
}

// check does each call on a work that is not Bad and on one that is: the answer must
// be the same, and the flag is never taken back.
func check(t *testing.T, calls []call) {
	t.Helper()
	for i, c := range calls {
		for _, ahead := range []bool{false, true} {
			w := &fx.Work{Bad: ahead}
			if got := c.do(w); !reflect.DeepEqual(got, c.want) || w.Bad != (ahead || c.bad) {
				t.Errorf("%d: %s, Bad ahead %v: %v, Bad %v; not %v, Bad %v", i, c.name, ahead, got, w.Bad, c.want, ahead || c.bad)
			}
		}
	}
}

func partsOf(a *api.Vec) []*int { return []*int{&a.X, &a.Y, &a.Z} }

// checked asks Check of some body, changed, and of the same one if it is Fixed.
func checked(t *testing.T, name string, moving, fixed api.Errno, change func(b *api.Body)) {
	t.Helper()
	b := with(change)
	if e := body.Check(b); e != moving {
		t.Errorf("%s: %d, not %d", name, e, moving)
	}
	b.Kind = api.Fixed
	if e := body.Check(b); e != fixed {
		t.Errorf("%s, Fixed: %d, not %d", name, e, fixed)
	}
}

// TestD1Parts: each part of each vector is asked, at both of its ends.
func TestD1Parts(t *testing.T) {
	bounds := []struct {
		name        string
		of          func(b *api.Body) *api.Vec
		least, most int
		moving      api.Errno // beyond them
		fixed       api.Errno
	}{
		{"At", func(b *api.Body) *api.Vec { return &b.Pose.At }, -1 << 42, 1 << 42, api.ErrArg, api.ErrArg},
		{"P", func(b *api.Body) *api.Vec { return &b.P }, -1 << 54, 1 << 54, api.ErrArg, api.ErrArg},
		{"L", func(b *api.Body) *api.Vec { return &b.L }, -1 << 54, 1 << 54, api.ErrArg, api.ErrArg},
		{"Inertia", func(b *api.Body) *api.Vec { return &b.Mass.Inertia }, 1 << 12, 1 << 49, api.ErrBodyMass, api.OK},
	}
	for _, x := range bounds {
		for i := range 3 {
			for _, n := range []int{x.least, x.most, x.least + 1, x.most - 1} {
				checked(t, x.name, api.OK, api.OK, func(b *api.Body) { *partsOf(x.of(b))[i] = n })
			}
			for _, n := range []int{x.least - 1, x.most + 1, math.MinInt, math.MaxInt} {
				checked(t, x.name, x.moving, x.fixed, func(b *api.Body) { *partsOf(x.of(b))[i] = n })
			}
		}
	}
}

func TestD1Numbers(t *testing.T) {
	for _, n := range []int{0, 1, one - 1, one} {
		checked(t, "Friction", api.OK, api.OK, func(b *api.Body) { b.Friction = n })
	}
	for _, n := range []int{-1, one + 1, math.MinInt, math.MaxInt} {
		checked(t, "Friction", api.ErrArg, api.ErrArg, func(b *api.Body) { b.Friction = n })
	}
	for _, n := range []int{1 << 24, 1 << 40} {
		checked(t, "Mass", api.OK, api.OK, func(b *api.Body) { b.Mass.Mass = n })
	}
	for _, n := range []int{0, -one, 1<<24 - 1, 1<<40 + 1, math.MinInt, math.MaxInt} {
		checked(t, "Mass", api.ErrBodyMass, api.OK, func(b *api.Body) { b.Mass.Mass = n })
	}
	for _, n := range []int{0, -1, 3, math.MinInt, math.MaxInt} {
		if e := body.Check(still(n)); e != api.ErrArg {
			t.Errorf("Kind %d: %d", n, e)
		}
	}
}

// TestD1Turn: a turn's Norm is that of all four parts, and asked at both ends.
func TestD1Turn(t *testing.T) {
	for _, x := range []struct {
		turn api.Quat
		e    api.Errno
	}{
		{q(one-8, 0, 0, 0), api.OK}, {q(0, -one+8, 0, 0), api.OK}, {q(0, 0, one+8, 0), api.OK}, {q(0, 0, 0, -one-8), api.OK},
		{q(one-9, 0, 0, 0), api.ErrArg}, {q(0, one-9, 0, 0), api.ErrArg}, {q(0, 0, -one-9, 0), api.ErrArg}, {q(0, 0, 0, one+9), api.ErrArg},
		{q(one/2, -one/2, one/2, -one/2), api.OK}, {q(one/2+4, one/2+4, one/2+4, one/2+4), api.OK}, {q(one/2-5, one/2-5, one/2-5, one/2-4), api.ErrArg},
		{q(0, 0, 0, 0), api.ErrArg}, {q(one, one, 0, 0), api.ErrArg}, {q(one/2, one/2, 0, 0), api.ErrArg},
		{q(1<<62, 0, 0, 0), api.ErrArg}, {q(one, 0, math.MinInt, 0), api.ErrArg}, {q(most, most, most, most), api.ErrArg}, {q(one, 0, 0, 1<<62), api.ErrArg},
	} {
		checked(t, "Turn", x.e, x.e, func(b *api.Body) { b.Pose.Turn = x.turn })
	}
}

func TestD1Shape(t *testing.T) {
	checked(t, "Form", api.ErrShapeForm, api.ErrShapeForm, func(b *api.Body) { b.Shape.Radius = -1 })
	checked(t, "Kind", api.ErrShapeForm, api.ErrShapeForm, func(b *api.Body) { b.Shape = api.Shape{} })
	checked(t, "Flat", api.ErrShapeFlat, api.ErrShapeFlat, func(b *api.Body) { b.Shape.Points[3] = api.Point{X: 1, Y: 1} })
	checked(t, "Ball", api.OK, api.OK, func(b *api.Body) { b.Shape = api.Shape{Kind: api.Ball, Radius: 1} })
}

// TestD1First: of several errors it is the one that is named first.
func TestD1First(t *testing.T) {
	noMass := func(b *api.Body) { b.Mass = api.Mass{} }
	noShape := func(b *api.Body) { b.Shape = api.Shape{} }
	checked(t, "no mass", api.ErrBodyMass, api.OK, noMass)
	checked(t, "neither", api.ErrShapeForm, api.ErrShapeForm, func(b *api.Body) { noMass(b); noShape(b) })
	for i, change := range []func(b *api.Body){
		func(b *api.Body) { b.Pose.At.X = 1<<42 + 1 },
		func(b *api.Body) { b.Pose.Turn.W = 0 },
		func(b *api.Body) { b.Friction = -1 },
		func(b *api.Body) { b.P.Y = 1<<54 + 1 },
		func(b *api.Body) { b.L.Y = 1<<54 + 1 },
	} {
		b := with(func(b *api.Body) { noMass(b); noShape(b); change(b) })
		if e := body.Check(b); e != api.ErrArg {
			t.Errorf("%d: %d", i, e)
		}
	}
	if e := body.Check(api.Body{}); e != api.ErrArg {
		t.Error(e)
	}
}

// TestD1Else: what is not named is not asked.
func TestD1Else(t *testing.T) {
	for _, n := range []int{0, -1, math.MinInt, math.MaxInt} {
		checked(t, "other fields", api.OK, api.OK, func(b *api.Body) { b.Group, b.Mask, b.Quiet = n, n, n })
	}
	checked(t, "other flags", api.OK, api.OK, func(b *api.Body) { b.Fast, b.Asleep, b.Out = false, false, false })
}

func TestD2Speed(t *testing.T) {
	of := func(p api.Vec, mass int) api.Body { return with(func(b *api.Body) { b.P, b.Mass.Mass = p, mass }) }
	check(t, []call{
		speed(some(), v(5*one/2, -3*one, 7*one/2)),
		speed(of(v(1, -1, 0), 3*one), v(0, -1, 0)), // down
		speed(of(v(3*one, 0, -one), one/2), v(6*one, 0, -2*one)),
		speed(of(v(one, one, one), -one), v(-one, -one, -one)),
		speed(api.Body{Kind: api.Moving, P: v(7, -7, 0), Mass: api.Mass{Mass: 2 * one}}, v(3, -4, 0)),
		// Each part is told by itself: one that is too great is 0, the others stay.
		bad(speed(of(v(1<<54, one, -one), 1<<24), v(0, one<<8, -one<<8))),
		bad(speed(of(v(one, 1<<54, -one), 1<<24), v(one<<8, 0, -one<<8))),
		bad(speed(of(v(one, -one, math.MinInt), one), v(one, -one, 0))),
		bad(speed(of(v(1, 2, 3), 0), v(0, 0, 0))),
		bad(speed(of(v(0, 0, 0), math.MinInt), v(0, 0, 0))),
	})
}

func TestD2Yield(t *testing.T) {
	turned := func(turn api.Quat) api.Body { return with(func(b *api.Body) { b.Pose.Turn = turn }) }
	heavy := func(inertia api.Vec) api.Body { return with(func(b *api.Body) { b.Mass.Inertia = inertia }) }
	third := q(one/2, one/2, one/2, one/2) // X comes to Y, Y to Z, Z to X
	check(t, []call{
		spin(some(), v(8*one, 9*one/2, -5*one/2)),
		yield(some(), v(one, one, one), v(one, one/2, one/4)),
		yield(some(), v(1, -1, -1), v(1, -1, -1)), // down
		// Its own axes are where the turn has brought them.
		yield(turned(third), v(0, one, 0), v(0, one, 0)),
		yield(turned(third), v(0, 0, one), v(0, 0, one/2)),
		yield(turned(third), v(one, 0, 0), v(one/4, 0, 0)),
		yield(turned(q(0, 0, 0, one)), v(one, one, one), v(one, one/2, one/4)),
		spin(turned(third), v(2*one, 9*one, -5*one)),
		yield(heavy(v(one/4, one/2, 1)), v(one, one, 1), v(4*one, 2*one, one)),
		// A part that has no number is 0; the others stay.
		bad(yield(heavy(v(0, one, 2*one)), v(one, one, one), v(0, one, one/2))),
		bad(yield(heavy(v(one, 1, 2*one)), v(one, one, one), v(one, 0, one/2))),
		// Where a whole vector or a matrix can not be told, it is noughts.
		bad(yield(some(), v(one, most+1, one), v(0, 0, 0))),
		bad(yield(turned(q(one, 1<<61, 0, 0)), v(one, one, one), v(0, 0, 0))),
		bad(spin(with(func(b *api.Body) { b.L.Z = math.MinInt }), v(0, 0, 0))),
	})
}

func TestD3Push(t *testing.T) {
	b := some()
	to := func(p, l api.Vec) api.Body { return with(func(b *api.Body) { b.P, b.L = p, l }) }
	check(t, []call{
		push(b, v(0, 0, 0), v(4*one, one, -one), to(v(9*one, -5*one, 6*one), b.L)),
		push(b, v(0, one, 0), v(one, 0, 0), to(v(6*one, -6*one, 7*one), v(8*one, 9*one, -11*one))),
		push(b, v(one, 2*one, 3*one), v(4*one, 5*one, 6*one), to(v(9*one, -one, 13*one), v(5*one, 15*one, -13*one))),
		push(b, v(1, 0, 0), v(0, 1, -1), to(v(5*one, -6*one+1, 7*one-1), b.L)), // the arm's part is rounded down: 1 by One
		push(b, v(1, 0, 0), v(0, -1, 0), to(v(5*one, -6*one-1, 7*one), v(8*one, 9*one, -10*one-1))),
		// Each vector is told by itself: one that can not be is noughts.
		bad(push(b, v(0, 0, 0), v(most, 0, 0), to(v(0, 0, 0), b.L))),
		bad(push(b, v(0, most, 0), v(0, 0, 2*one), to(v(5*one, -6*one, 9*one), b.L))),
		bad(push(b, v(0, most, 0), v(0, 0, one), to(v(5*one, -6*one, 8*one), v(0, 0, 0)))),
		bad(push(b, v(0, 0, 0), v(0, math.MinInt, 0), to(v(0, 0, 0), b.L))),
		bad(push(b, v(0, 0, math.MaxInt), v(0, 0, 0), b)),
	})
}

func TestD3TwistAndFall(t *testing.T) {
	b := some()
	l := func(l api.Vec) api.Body { return with(func(b *api.Body) { b.L = l }) }
	p := func(p api.Vec) api.Body { return with(func(b *api.Body) { b.P = p }) }
	weighs := func(b api.Body, mass int) api.Body { b.Mass.Mass = mass; return b }
	check(t, []call{
		twist(b, v(one, -one, 2*one), l(v(9*one, 8*one, -8*one))),
		twist(b, v(0, 0, 0), b),
		bad(twist(b, v(0, 0, most+1), l(v(0, 0, 0)))),
		bad(twist(b, v(most, 0, 0), l(v(0, 0, 0)))),

		fall(b, v(0, -10*one, 0), 1<<26, p(v(5*one, -6*one-20*one/64, 7*one))),
		fall(b, v(one, 2*one, 3*one), -one, p(v(3*one, -10*one, one))),
		fall(b, v(one, -one, 3*one), 0, b),
		// First its mass and the time, down; then the pull, down.
		fall(weighs(b, 3), v(one, one, -one), one/2, weighs(p(v(5*one+1, -6*one+1, 7*one-1)), 3)),
		fall(weighs(b, one/2), v(3, -3, one), 3, weighs(p(v(5*one, -6*one-1, 7*one+1)), one/2)),
		bad(fall(b, v(0, 0, 0), most, b)), // mass by time is too great, and told as 0
		bad(fall(b, v(one, one, one), most+1, b)),
		bad(fall(b, v(most, 0, 0), one, b)),
		bad(fall(weighs(b, math.MinInt), v(0, one, 0), 0, weighs(b, math.MinInt))),
		bad(fall(b, v(most/2, 0, 0), one, p(v(0, 0, 0)))),
	})
}

func TestD4(t *testing.T) {
	b := some()
	to := func(at api.Vec, turn api.Quat) api.Body {
		return with(func(b *api.Body) { b.Pose = api.Pose{At: at, Turn: turn} })
	}
	calm := func(b api.Body) api.Body { b.L = api.Vec{}; return b }
	l := func(b api.Body, z int) api.Body { b.L = v(0, 0, z); return b }
	check(t, []call{
		goes(calm(b), one, calm(to(v(7*one/2, -5*one, 13*one/2), q(one, 0, 0, 0)))),
		goes(calm(b), -one, calm(to(v(-3*one/2, one, -one/2), q(one, 0, 0, 0)))),
		goes(b, 0, b),
		// Half of its spin's way is half of the turn's vector: 2 in one second is a
		// quarter turn.
		goes(l(b, 8*one), one, l(to(v(7*one/2, -5*one, 13*one/2), q(3037000500, 0, 0, 3037000500)), 8*one)),
		goes(l(b, 8*one), -one, l(to(v(-3*one/2, one, -one/2), q(3037000500, 0, 0, -3037000501)), 8*one)),
		// The time by 2 is down: 1 is 0, -1 is -1; a spin of 2^31 times -1 by One is -1.
		goes(l(b, 4<<32), 1, l(to(v(one+2, -2*one-3, 3*one+3), q(one, 0, 0, 0)), 4<<32)),
		goes(l(b, 4<<32), 3, l(to(v(one+7, -2*one-9, 3*one+10), q(one, 0, 0, 1)), 4<<32)),
		goes(l(b, 4<<32), -1, l(to(v(one-3, -2*one+3, 3*one-4), q(one, 0, 0, -1)), 4<<32)),
		goes(l(b, 4<<32), -3, l(to(v(one-8, -2*one+9, 3*one-11), q(one, 0, 0, -2)), 4<<32)),
		// Each of both is told by itself.
		bad(goes(calm(b), most, calm(b))),
		bad(goes(calm(b), most+1, calm(b))),
		bad(goes(calm(b), math.MinInt, calm(b))),
		bad(goes(with(func(b *api.Body) { b.Pose.At.X, b.L = most, api.Vec{} }), one, calm(to(v(0, 0, 0), q(one, 0, 0, 0))))),
		bad(goes(with(func(b *api.Body) { b.Pose.Turn = api.Quat{} }), one, to(v(7*one/2, -5*one, 13*one/2), api.Quat{}))),
		bad(goes(with(func(b *api.Body) { b.Mass.Mass = 0; b.L = api.Vec{} }), one, with(func(b *api.Body) { b.Mass.Mass = 0; b.L = api.Vec{} }))),
	})
}

func TestD5Cap(t *testing.T) {
	of := func(mass int, inertia, p, l api.Vec) api.Body {
		return with(func(b *api.Body) { b.Mass, b.P, b.L = api.Mass{Mass: mass, Inertia: inertia}, p, l })
	}
	i := v(one, one, one)
	light := func(p, l api.Vec) api.Body { return of(one, i, p, l) }
	check(t, []call{
		caps(some(), some(), false),
		caps(light(v(0, 1<<38, 0), v(0, 0, -1<<36)), light(v(0, 1<<38, 0), v(0, 0, -1<<36)), false),
		caps(light(v(0, 1<<38+1, 0), v(0, 0, -1<<36)), light(v(0, 1<<37, 0), v(0, 0, -1<<36)), true),
		caps(light(v(0, 1<<38, 0), v(0, 0, -1<<36-1)), light(v(0, 1<<38, 0), v(0, 0, -1<<35)), true),
		// All parts are halved, to nought.
		caps(light(v(3, -1<<40-1, -3), v(-1, 1<<37+3, 5)), light(v(0, -1<<38, 0), v(0, 1<<35, 1)), true),
		caps(light(v(-1<<38-3, 1, -5), v(0, 0, 0)), light(v(-1<<37-1, 0, -2), v(0, 0, 0)), true),
		// The Len counts, not a part; and the Speed, not P.
		caps(light(v(1<<38-1, 1<<38-1, 0), v(0, 0, 0)), light(v(1<<37-1, 1<<37-1, 0), v(0, 0, 0)), true),
		caps(light(v(1<<38, 1, 0), v(1<<36, 1, 0)), light(v(1<<38, 1, 0), v(1<<36, 1, 0)), false),
		caps(of(2*one, i, v(1<<39, 0, 0), v(0, 0, 0)), of(2*one, i, v(1<<39, 0, 0), v(0, 0, 0)), false),
		caps(of(one/2, i, v(1<<38, 0, 0), v(0, 0, 0)), of(one/2, i, v(1<<37, 0, 0), v(0, 0, 0)), true),
		caps(of(one, v(one, 4*one, one), v(0, 0, 0), v(0, 1<<38, 0)), of(one, v(one, 4*one, one), v(0, 0, 0), v(0, 1<<38, 0)), false),
		caps(of(1<<40, i, v(1<<54, -1<<54, 1<<54), v(1<<54, 0, 0)), of(1<<40, i, v(1<<45, -1<<45, 1<<45), v(1<<36, 0, 0)), true),
		// Where it can not be reckoned, it stays as it was: P too, though only L is to
		// blame.
		bad(caps(of(1, i, v(1<<54, 0, 0), v(1<<54, 0, 0)), of(1, i, v(1<<54, 0, 0), v(1<<54, 0, 0)), false)),
		bad(caps(of(one, v(1, 1, 1), v(1<<54, 0, 0), v(1<<54, 0, 0)), of(one, v(1, 1, 1), v(1<<54, 0, 0), v(1<<54, 0, 0)), false)),
		// One part alone: the others are fast still.
		bad(caps(of(1<<24, i, v(1<<54, 1<<50, 0), v(0, 0, 0)), of(1<<24, i, v(1<<54, 1<<50, 0), v(0, 0, 0)), false)),
		bad(caps(of(0, i, v(1, 0, 0), v(0, 0, 0)), of(0, i, v(1, 0, 0), v(0, 0, 0)), false)),
		bad(caps(of(0, i, v(0, 0, 0), v(0, 0, 0)), of(0, i, v(0, 0, 0), v(0, 0, 0)), false)),
		bad(caps(light(v(math.MinInt, 0, 0), v(0, 0, 0)), light(v(math.MinInt, 0, 0), v(0, 0, 0)), false)),
		bad(caps(light(v(most, most, most), v(0, 0, 0)), light(v(most, most, most), v(0, 0, 0)), false)),
		// The speed can be told, but not how great it is.
		bad(caps(light(v(most, most, 0), v(1<<40, 0, 0)), light(v(most, most, 0), v(1<<40, 0, 0)), false)),
		bad(caps(light(v(1<<40, 0, 0), v(0, most, most)), light(v(1<<40, 0, 0), v(0, most, most)), false)),
		bad(caps(light(v(1<<40, 0, 0), v(0, most+1, 0)), light(v(1<<40, 0, 0), v(0, most+1, 0)), false)),
	})
}

func TestD5Gone(t *testing.T) {
	for _, kind := range []int{api.Fixed, api.Moving} {
		for i := range 3 {
			for n, want := range map[int]bool{0: false, 1 << 42: false, -1 << 42: false, 1<<42 + 1: true, -1<<42 - 1: true, math.MinInt: true, math.MaxInt: true} {
				b := still(kind)
				*partsOf(&b.Pose.At)[i] = n
				if body.Gone(b) != want {
					t.Errorf("Kind %d, part %d: %d: not %v", kind, i, n, want)
				}
			}
		}
	}
}

// TestStill: what does not move has no speed; nothing changes it, and the work stays
// as it was, though all that is asked could not be reckoned.
func TestStill(t *testing.T) {
	far := v(math.MinInt, most+1, 1)
	for _, kind := range []int{api.Fixed, 0, 3, -1, math.MinInt, math.MaxInt} {
		for _, b := range []api.Body{still(kind), with(func(b *api.Body) {
			b.Kind, b.P, b.L, b.Mass, b.Pose = kind, far, far, api.Mass{}, api.Pose{At: far, Turn: q(math.MinInt, 0, 0, 1)}
		})} {
			check(t, []call{
				speed(b, v(0, 0, 0)), spin(b, v(0, 0, 0)), yield(b, v(one, one, one), v(0, 0, 0)), yield(b, far, v(0, 0, 0)),
				push(b, v(one, 2*one, 3*one), v(4*one, 0, one), b), push(b, far, far, b),
				twist(b, v(one, one, one), b), twist(b, far, b),
				fall(b, v(one, one, one), one, b), fall(b, far, math.MaxInt, b),
				goes(b, one, b), goes(b, math.MinInt, b),
				caps(b, b, false),
			})
		}
	}
}

// TestExamples are the chapter's.
func TestExamples(t *testing.T) {
	w := &fx.Work{}
	first := api.Body{Kind: api.Moving, Pose: api.Pose{Turn: q(one, 0, 0, 0)}, Mass: api.Mass{Mass: 2 * one, Inertia: v(one, one, one)}}
	b := body.Push(w, first, v(0, 0, 0), v(4*one, 0, 0))
	if s := body.Speed(w, b); s != v(2*one, 0, 0) {
		t.Error("Speed:", s)
	}
	if b = body.Go(w, b, one); b.Pose.At != v(2*one, 0, 0) {
		t.Error("Go:", b.Pose)
	}
	if b = body.Fall(w, first, v(0, -10*one, 0), 1<<26); b.P != v(0, -20*one/64, 0) {
		t.Error("Fall:", b.P)
	}
	first.Kind = api.Fixed
	if b = body.Fall(w, first, v(0, -10*one, 0), 1<<26); !same(b, first) || w.Bad {
		t.Error("Fixed:", b)
	}
}

// changes are all calls that answer a body.
func changes() map[string]func(w *fx.Work, b api.Body) api.Body {
	return map[string]func(w *fx.Work, b api.Body) api.Body{
		"Push":  func(w *fx.Work, b api.Body) api.Body { return body.Push(w, b, v(one, 0, 0), v(0, one, 0)) },
		"Twist": func(w *fx.Work, b api.Body) api.Body { return body.Twist(w, b, v(one, 0, 0)) },
		"Fall":  func(w *fx.Work, b api.Body) api.Body { return body.Fall(w, b, v(one, 0, 0), one) },
		"Go":    func(w *fx.Work, b api.Body) api.Body { return body.Go(w, b, one) },
		"Cap":   func(w *fx.Work, b api.Body) api.Body { b, _ = body.Cap(w, b); return b },
	}
}

// TestMemory: a body that comes out has points of its own, spare room too, whatever
// its Kind, and also where the work becomes Bad.
func TestMemory(t *testing.T) {
	for name, do := range changes() {
		for i, change := range []func(b *api.Body){
			func(b *api.Body) {},
			func(b *api.Body) { b.Kind = api.Fixed },
			func(b *api.Body) { b.P, b.L, b.Mass = v(most, most, most), v(most, most, most), api.Mass{} },
			func(b *api.Body) { b.P, b.L = v(1<<54, 0, 0), v(0, 1<<54, 0) },
		} {
			room := []api.Point{{}, {X: 4}, {Y: 4}, {Z: 4}, {X: 77}, {Y: 77}}
			b := with(change)
			b.Shape.Points = room[:4]
			before := append([]api.Point{}, room...)
			out := do(&fx.Work{}, b)
			if !reflect.DeepEqual(out.Shape, b.Shape) || !reflect.DeepEqual(room, before) {
				t.Errorf("%s %d: %v of %v", name, i, out.Shape, room)
			}
			for j := range out.Shape.Points[:cap(out.Shape.Points)] {
				out.Shape.Points[:cap(out.Shape.Points)][j] = api.Point{X: -1, Y: -1, Z: -1}
			}
			if !reflect.DeepEqual(room, before) {
				t.Errorf("%s %d: it shares memory: %v", name, i, room)
			}
			b.Shape.Points = room[:0]
			out = do(&fx.Work{}, b)
			if n := append(out.Shape.Points, api.Point{X: -1}); len(n) != 1 || !reflect.DeepEqual(room, before) {
				t.Errorf("%s %d: it shares spare room: %v", name, i, room)
			}
		}
	}
}

// TestElse: nothing but what a call names changes.
func TestElse(t *testing.T) {
	for name, do := range changes() {
		b := with(func(b *api.Body) { b.P, b.L = v(1<<42, 0, 0), v(0, 1<<42, 0) })
		out := do(&fx.Work{}, b)
		moves := name == "Go"
		if (out.Pose != b.Pose) != moves || (out.P == b.P) != (moves || name == "Twist") || (out.L == b.L) != (moves || name == "Fall") {
			t.Errorf("%s: %v", name, out)
		}
		out.Pose, out.P, out.L = b.Pose, b.P, b.L
		if !same(out, b) {
			t.Errorf("%s: %v", name, out)
		}
	}
}
