package joint_test

import (
	"math"
	"reflect"
	"slices"
	"testing"

	"tumbler/api"
	"tumbler/fx"
	"tumbler/joint"
)

const hold = 1 << 44 // the ends of what holds

// Turns that are exact: none, a half one about X, one that takes X to Y, Y to Z and Z
// to X, and that one's way back.
func straight() api.Quat { return api.Quat{W: one} }
func over() api.Quat     { return api.Quat{X: one} }
func round() api.Quat    { return api.Quat{W: one / 2, X: one / 2, Y: one / 2, Z: one / 2} }
func unround() api.Quat  { return api.Quat{W: one / 2, X: -one / 2, Y: -one / 2, Z: -one / 2} }

func list(l ...api.Body) []api.Body { return l }

// at is a body there, turned so, whose fields are all told.
func at(place api.Vec, turn api.Quat) api.Body {
	return api.Body{
		Kind: api.Moving, Pose: api.Pose{At: place, Turn: turn}, P: v(2*one, -4*one, 6*one), L: v(4*one, 6*one, -8*one),
		Mass:  api.Mass{Mass: 2 * one, Inertia: v(one, 2*one, 4*one)},
		Shape: api.Shape{Kind: api.Hull, Radius: 9, Half: api.Point{X: 1, Y: 2, Z: 3}, Points: []api.Point{{}, {X: 4}, {Y: 4}, {Z: 4}}},
		Group: 3, Mask: 5, Friction: one / 2, Fast: true, Quiet: 7, Asleep: true, Out: true,
	}
}

// apart are two bodies that are not turned, the first one in the middle.
func apart(place api.Vec) []api.Body {
	return list(at(api.Vec{}, straight()), at(place, straight()))
}

// turned are two bodies in the middle.
func turned(a, b api.Quat) []api.Body { return list(at(api.Vec{}, a), at(api.Vec{}, b)) }

// pulls is the row of a rope that is taut.
func pulls(way api.Vec, goal int) api.Row {
	return api.Row{B: 1, Way: way, Goal: goal, Low: -hold, Of: -1}
}

// three are rows along X, Y and Z of these goals, like the one that is given.
func three(like api.Row, goals api.Vec) []api.Row {
	like.B, like.Of, like.Low, like.High = 1, -1, -hold, hold
	x, y, z := like, like, like
	x.Way, x.Goal = v(one, 0, 0), goals.X
	y.Way, y.Goal = v(0, one, 0), goals.Y
	z.Way, z.Goal = v(0, 0, one), goals.Z
	return []api.Row{x, y, z}
}

// holds are the rows of a socket whose arms are none.
func holds(goals api.Vec) []api.Row { return three(api.Row{}, goals) }

// turns are a weld's own rows.
func turns(goals api.Vec) []api.Row { return three(api.Row{Turn: true}, goals) }

// keeps is one of the first two of a hinge's own rows.
func keeps(way api.Vec, goal int) api.Row {
	return api.Row{B: 1, Way: way, Turn: true, Goal: goal, Low: -hold, High: hold, Of: -1}
}

// drives is a hinge's motor.
func drives(way api.Vec, goal, force int) api.Row {
	return api.Row{B: 1, Way: way, Turn: true, Goal: goal, Low: -force, High: force, Of: -1}
}

// wished is a joint of the first two of some bodies, and what rows it must have.
type wished struct {
	name string
	j    api.Joint
	l    []api.Body
	want []api.Row
	bad  bool
}

// same is whether both have the same rows; none may be nil or not.
func same(a, b []api.Row) bool { return slices.Equal(a, b) }

// checkRows asks with a work that is not Bad and with one that is: the rows are the
// same, the flag is never taken back, and must be set if bad.
func checkRows(t *testing.T, cases []wished) {
	t.Helper()
	for _, c := range cases {
		for _, was := range []bool{false, true} {
			w := &fx.Work{Bad: was}
			if got := joint.Rows(w, c.j, 0, 1, c.l); !same(got, c.want) {
				t.Errorf("%s: %+v, not %+v", c.name, got, c.want)
			}
			if w.Bad != (was || c.bad) {
				t.Errorf("%s: Bad ahead %v: Bad %v", c.name, was, w.Bad)
			}
		}
	}
}

// rope is one from middle to middle.
func rope(long int) api.Joint {
	return with(api.Rope, func(j *api.Joint) { j.Long = long })
}

func TestJ2Rope(t *testing.T) {
	taut := func(way api.Vec, goal int) []api.Row { return []api.Row{pulls(way, goal)} }
	checkRows(t, []wished{
		{"taut", rope(2 * one), apart(v(3*one, 0, 0)), taut(v(one, 0, 0), -8*one), false},
		{"the other way", rope(2 * one), apart(v(0, -4*one, 0)), taut(v(0, -one, 0), -16*one), false},
		{"askew", rope(2 * one), apart(v(3*one, 0, 4*one)), taut(v(2576980377, 0, 3435973836), -24*one), false},
		{"askew, down", rope(2 * one), apart(v(0, -4*one, -3*one)), taut(v(0, -3435973837, -2576980378), -24*one), false},
		{"hardly taut", rope(3*one - 1), apart(v(0, 0, 3*one)), taut(v(0, 0, one), -8), false},
		{"as long as it may be", rope(3 * one), apart(v(3*one, 0, 0)), nil, false},
		{"not taut", rope(4 * one), apart(v(3*one, 0, 0)), nil, false},
		{"hardly not taut", rope(3*one + 1), apart(v(3*one, 0, 0)), nil, false},
		{"how far it is is told down", rope(1), apart(v(1, 1, 0)), nil, false},
		{"the least one", rope(0), apart(v(0, 1, 0)), taut(v(0, one, 0), -8), false},
		{"no rope at one place", rope(0), apart(v(0, 0, 0)), nil, false},
		{"the longest one", rope(1 << 42), apart(v(1<<42, 0, 0)), nil, false},
		{"the longest one, taut", rope(1 << 42), apart(v(1<<42+2, 0, 0)), taut(v(one, 0, 0), -16), false},
		{"what else it says", with(api.Rope, func(j *api.Joint) { j.Long, j.Motor, j.Force, j.AxisA = 2*one, 5, 7, v(1, 2, 3) }), apart(v(3*one, 0, 0)), taut(v(one, 0, 0), -8*one), false},
		{"from the first one on", rope(2 * one), list(at(v(5*one, one, 0), straight()), at(v(one, one, 0), straight())), taut(v(-one, 0, 0), -16*one), false},
	})
}

// armed is a rope from an arm of A to one of B.
func armed(long int, a, b api.Vec) api.Joint {
	return with(api.Rope, func(j *api.Joint) { j.Long, j.AtA, j.AtB = long, a, b })
}

// TestJ2Arms: arms are turned as the bodies are.
func TestJ2Arms(t *testing.T) {
	taut := func(way, a, b api.Vec, goal int) []api.Row {
		r := pulls(way, goal)
		r.ArmA, r.ArmB = a, b
		return []api.Row{r}
	}
	x, y, z := v(one, 0, 0), v(0, one, 0), v(0, 0, one)
	checkRows(t, []wished{
		{"A's", armed(one, x, api.Vec{}), apart(v(5*one, 0, 0)), taut(x, x, api.Vec{}, -24*one), false},
		{"B's", armed(one, api.Vec{}, x), apart(v(5*one, 0, 0)), taut(x, api.Vec{}, x, -40*one), false},
		{"both", armed(one, x, v(0, 3*one, 0)), apart(v(5*one, 0, 0)), taut(v(3435973836, 2576980377, 0), x, v(0, 3*one, 0), -32*one), false},
		{"A is turned", armed(one, z, api.Vec{}), list(at(api.Vec{}, round()), at(v(5*one, 0, 0), straight())), taut(x, x, api.Vec{}, -24*one), false},
		{"B is turned", armed(one, api.Vec{}, v(0, -2*one, 0)), list(at(api.Vec{}, straight()), at(v(0, 0, 5*one), round())), taut(z, api.Vec{}, v(0, 0, -2*one), -16*one), false},
		{"both are turned", armed(one, y, y), list(at(v(7*one, 0, one), over()), at(v(6*one, -one, 3*one), unround())), taut(z, v(0, -one, 0), x, -8*one), false},
	})
}

func TestJ2Socket(t *testing.T) {
	at3 := func(a, b api.Vec) api.Joint {
		return with(api.Socket, func(j *api.Joint) { j.AtA, j.AtB = a, b })
	}
	arms := func(a, b, goals api.Vec) []api.Row { return three(api.Row{ArmA: a, ArmB: b}, goals) }
	x3, x2 := v(3*one, 0, 0), v(2*one, 0, 0)
	checkRows(t, []wished{
		{"at one place", at3(x3, api.Vec{}), apart(x3), arms(x3, api.Vec{}, api.Vec{}), false},
		{"off by one", at3(x2, api.Vec{}), apart(x3), arms(x2, api.Vec{}, v(-8*one, 0, 0)), false},
		{"off by the last place", at3(api.Vec{}, api.Vec{}), apart(v(1, -2, 3)), holds(v(-8, 16, -24)), false},
		{"each part", at3(api.Vec{}, v(0, one, 0)), apart(v(one, one, -one)), arms(api.Vec{}, v(0, one, 0), v(-8*one, -16*one, 8*one)), false},
		{"turned", at3(v(0, 0, one), v(0, one, 0)), list(at(v(0, one, 0), round()), at(v(one, one, one), over())),
			arms(v(one, 0, 0), v(0, -one, 0), v(0, 8*one, -8*one)), false},
		{"what else it says", with(api.Socket, func(j *api.Joint) { j.Long, j.Motor, j.Force, j.AxisA = 2*one, 5, 7, v(1, 2, 3) }), apart(x3), holds(v(-24*one, 0, 0)), false},
	})
}

// about is a hinge of these axes.
func about(a, b api.Vec, motor, force int) api.Joint {
	return with(api.Hinge, func(j *api.Joint) { j.AxisA, j.AxisB, j.Motor, j.Force = a, b, motor, force })
}

// hinged are a socket's rows without goals, and then others.
func hinged(rows ...api.Row) []api.Row { return append(holds(api.Vec{}), rows...) }

func TestJ2Hinge(t *testing.T) {
	x, y, z := v(one, 0, 0), v(0, one, 0), v(0, 0, one)
	nx, ny, nz := v(-one, 0, 0), v(0, -one, 0), v(0, 0, -one)
	none := turned(straight(), straight())
	checkRows(t, []wished{
		{"about X", about(x, x, 0, 0), none, hinged(keeps(z, 0), keeps(ny, 0)), false},
		{"about Y", about(y, y, 0, 0), none, hinged(keeps(nz, 0), keeps(nx, 0)), false},
		{"about Z", about(z, z, 0, 0), none, hinged(keeps(y, 0), keeps(nx, 0)), false},
		{"about X, the other way", about(nx, nx, 0, 0), none, hinged(keeps(nz, 0), keeps(ny, 0)), false},
		{"B's across it, along t", about(z, x, 0, 0), none, hinged(keeps(y, -8*one), keeps(nx, 0)), false},
		{"B's across it, along u", about(z, y, 0, 0), none, hinged(keeps(y, 0), keeps(nx, -8*one)), false},
		{"B's back across it", about(z, nx, 0, 0), none, hinged(keeps(y, 8*one), keeps(nx, 0)), false},
		{"B's against it", about(z, nz, 0, 0), none, hinged(keeps(y, 0), keeps(nx, 0)), false},
		{"B's aslant", about(z, v(3*one/5, 0, 4*one/5), 0, 0), none, hinged(keeps(y, -8*(3*one/5)), keeps(nx, 0)), false},
		{"A is turned", about(y, z, 0, 0), turned(round(), straight()), hinged(keeps(y, 0), keeps(nx, 0)), false},
		{"B is turned", about(z, z, 0, 0), turned(straight(), round()), hinged(keeps(y, -8*one), keeps(nx, 0)), false},
		{"both are turned", about(z, z, 0, 0), turned(round(), round()), hinged(keeps(z, 0), keeps(ny, 0)), false},
		{"it is long", with(api.Hinge, func(j *api.Joint) { j.Long = 9 * one }), none, hinged(keeps(y, 0), keeps(nx, 0)), false},
	})
}

// TestJ2Motor: a motor turns about A's axis as it is now.
func TestJ2Motor(t *testing.T) {
	x, y, z, nx, ny := v(one, 0, 0), v(0, one, 0), v(0, 0, one), v(-one, 0, 0), v(0, -one, 0)
	none := turned(straight(), straight())
	checkRows(t, []wished{
		{"with a force", about(z, z, 5, 7), none, hinged(keeps(y, 0), keeps(nx, 0), drives(z, 5, 7)), false},
		{"without a force", about(z, z, 5, 0), none, hinged(keeps(y, 0), keeps(nx, 0)), false},
		{"of the least force", about(z, z, -5, 1), none, hinged(keeps(y, 0), keeps(nx, 0), drives(z, -5, 1)), false},
		{"that brakes", about(z, z, 0, 7), none, hinged(keeps(y, 0), keeps(nx, 0), drives(z, 0, 7)), false},
		{"the greatest", about(z, z, -1<<36, hold), none, hinged(keeps(y, 0), keeps(nx, 0), drives(z, -1<<36, hold)), false},
		{"turned", about(z, z, 5, 7), turned(round(), round()), hinged(keeps(z, 0), keeps(ny, 0), drives(x, 5, 7)), false},
		{"B's axis is another one", about(z, y, 5, 7), none, hinged(keeps(y, 0), keeps(nx, -8*one), drives(z, 5, 7)), false},
	})
	for _, kind := range []int{api.Socket, api.Weld} {
		j := about(z, z, 5, 7)
		j.Kind = kind
		if got := joint.Rows(&fx.Work{}, j, 0, 1, none); len(got) != 3*(kind/2) {
			t.Errorf("kind %d has a motor: %+v", kind, got)
		}
	}
}

// TestJ2HingeArms: a hinge and a weld hold as a socket does; rows that turn have no
// arms.
func TestJ2HingeArms(t *testing.T) {
	l := list(at(v(one, 2*one, 3*one), round()), at(v(-one, 0, one), over()))
	change := func(j *api.Joint) { j.AtA, j.AtB, j.Force = v(one, 0, 0), v(0, 2*one, one), 9 }
	socket := joint.Rows(&fx.Work{}, with(api.Socket, change), 0, 1, l)
	if want := three(api.Row{ArmA: v(0, one, 0), ArmB: v(0, -2*one, -one)}, v(16*one, 40*one, 24*one)); !same(socket, want) {
		t.Fatalf("%+v, not %+v", socket, want)
	}
	for _, kind := range []int{api.Hinge, api.Weld} {
		w := &fx.Work{}
		rows := joint.Rows(w, with(kind, change), 0, 1, l)
		if len(rows) != 6 || !same(rows[:3], socket) || w.Bad {
			t.Fatalf("%+v, Bad %v", rows, w.Bad)
		}
		for _, r := range rows[3:] {
			if !r.Turn || r.ArmA != (api.Vec{}) || r.ArmB != (api.Vec{}) {
				t.Errorf("%+v", r)
			}
		}
	}
}

// TestJ2Across: the first way is across A's axis and that one of X, Y and Z for which
// it has the part of the least size, the first one of equals: so it has nothing along
// that one, and something along both others.
func TestJ2Across(t *testing.T) {
	const (
		even              = 2479700525                         // One by the root of 3
		less, more, great = 2061584302, 2576980378, 2748779069 // 0.48, 0.6, 0.64
		third, rest       = 1431655765, 3787805118
	)
	for _, c := range []struct {
		axis  api.Vec
		least int
	}{
		{v(even, even, even), 0}, {v(-even, even, -even), 0}, {v(even, -even, -even), 0},
		{v(less, more, great), 0}, {v(less, -more, great), 0}, {v(-less, great, more), 0}, {v(-less, -great, -more), 0},
		{v(more, less, great), 1}, {v(-great, -less, more), 1}, {v(great, less, -more), 1},
		{v(more, great, less), 2}, {v(-great, more, -less), 2}, {v(great, -more, less), 2},
		{v(third, third, rest), 0}, {v(third, rest, -third), 0}, {v(-third, -rest, third), 0}, {v(rest, third, third), 1}, {v(-rest, third, -third), 1},
		{v(one, -1, 1), 1}, {v(one, 1, -1), 1}, {v(one, -2, 1), 2}, {v(1, one, -1), 0}, {v(-2, one, -1), 2}, {v(2, 1, -one), 1},
	} {
		w := &fx.Work{}
		rows := joint.Rows(w, about(c.axis, c.axis, 0, 0), 0, 1, turned(straight(), straight()))
		if len(rows) != 5 || w.Bad {
			t.Fatalf("%v: %+v, Bad %v", c.axis, rows, w.Bad)
		}
		way := rows[3].Way
		for i, n := range []int{way.X, way.Y, way.Z} {
			if (n == 0) != (i == c.least) {
				t.Errorf("%v: across %v, not by the part %d", c.axis, way, c.least)
			}
		}
	}
}

func TestJ2Weld(t *testing.T) {
	welded := func(goals api.Vec) []api.Row { return append(holds(api.Vec{}), turns(goals)...) }
	j := plain(api.Weld)
	minus := func(q api.Quat) api.Quat { return api.Quat{W: -q.W, X: -q.X, Y: -q.Y, Z: -q.Z} }
	a := 8 * one
	checkRows(t, []wished{
		{"not turned", j, turned(straight(), straight()), welded(api.Vec{}), false},
		{"both turned", j, turned(round(), round()), welded(api.Vec{}), false},
		{"both turned, told otherwise", j, turned(round(), minus(round())), welded(api.Vec{}), false},
		{"B is turned half", j, turned(straight(), over()), welded(v(-16*one, 0, 0)), false},
		{"A is turned half", j, turned(over(), straight()), welded(v(16*one, 0, 0)), false},
		{"B is turned", j, turned(straight(), round()), welded(v(-a, -a, -a)), false},
		{"B is turned back", j, turned(straight(), unround()), welded(v(a, a, a)), false},
		{"A is turned", j, turned(round(), straight()), welded(v(a, a, a)), false},
		{"B is turned, told otherwise", j, turned(straight(), minus(round())), welded(v(-a, -a, -a)), false},
		{"A is turned, told otherwise", j, turned(minus(round()), straight()), welded(v(a, a, a)), false},
		{"one behind the other", j, turned(round(), over()), welded(v(-a, -a, a)), false},
		{"the other behind the one", j, turned(over(), round()), welded(v(a, a, -a)), false},
		{"each part", j, turned(straight(), api.Quat{W: one, X: 1, Y: -2, Z: 3}), welded(v(-16, 32, -48)), false},
		{"W hardly below 0", j, turned(straight(), api.Quat{W: -1, X: one}), welded(v(16*one, 0, 0)), false},
		{"what else it says", with(api.Weld, func(j *api.Joint) { j.Long, j.Motor, j.Force, j.AxisA = 2*one, 5, 7, v(1, 2, 3) }), turned(straight(), over()), welded(v(-16*one, 0, 0)), false},
	})
}

// TestJ2Places: A and B of each row are the places; of others, or one and the same,
// there are no rows, and nothing is reckoned.
func TestJ2Places(t *testing.T) {
	l := list(at(v(9*one, 0, 0), round()), at(v(3*one, 0, 0), straight()), at(v(most, 0, 0), straight()), at(v(0, 0, 0), over()))
	for _, kind := range kinds() {
		j := with(kind, func(j *api.Joint) { j.Long, j.Force = one, 5 })
		w := &fx.Work{}
		many := []int{api.Rope: 1, api.Socket: 3, api.Hinge: 6, api.Weld: 6}[kind]
		for _, p := range [][2]int{{0, 1}, {1, 0}, {3, 1}, {0, 3}} {
			want := joint.Rows(w, j, 0, 1, list(l[p[0]], l[p[1]]))
			for i := range want {
				want[i].A, want[i].B = p[0], p[1]
			}
			if rows := joint.Rows(w, j, p[0], p[1], l); len(rows) != many || !same(rows, want) || w.Bad {
				t.Errorf("%v: %+v, not %+v, Bad %v", p, rows, want, w.Bad)
			}
		}
		for _, p := range [][2]int{{0, 0}, {1, 1}, {-1, 1}, {1, -1}, {0, 4}, {4, 0}, {math.MinInt, 1}, {1, math.MinInt}, {math.MaxInt, 0}, {0, math.MaxInt}, {-1, -1}, {2, 2}, {2, 4}} {
			if rows := joint.Rows(w, j, p[0], p[1], l); len(rows) != 0 || w.Bad {
				t.Errorf("%v: %+v, Bad %v", p, rows, w.Bad)
			}
		}
		if rows := joint.Rows(w, j, 0, 1, nil); len(rows) != 0 || w.Bad {
			t.Errorf("no list: %+v", rows)
		}
		if rows := joint.Rows(w, j, 0, 1, l[:1]); len(rows) != 0 || w.Bad {
			t.Errorf("what stands behind a list: %+v", rows)
		}
	}
}

// TestJ2Malformed: a joint that may not be has no rows, and nothing is reckoned.
func TestJ2Malformed(t *testing.T) {
	great := at(v(math.MinInt, 0, 0), api.Quat{W: most + 1})
	for _, kind := range append(kinds(), 0, 5) {
		for _, change := range []func(j *api.Joint){
			func(j *api.Joint) { j.Kind = 0 }, func(j *api.Joint) { j.Kind = 5 },
			func(j *api.Joint) { j.A = 0 }, func(j *api.Joint) { j.B = j.A }, func(j *api.Joint) { j.AtA.Z = 1<<37 + 1 }, func(j *api.Joint) { j.AtB.Y = math.MinInt },
			func(j *api.Joint) { j.Long = -1 }, func(j *api.Joint) { j.Motor = -1<<36 - 1 }, func(j *api.Joint) { j.Force = hold + 1 },
			func(j *api.Joint) { j.Kind, j.AxisA = api.Hinge, v(one, one, 0) }, func(j *api.Joint) { j.Kind, j.AxisB = api.Hinge, v(0, 0, most+1) },
		} {
			for _, l := range [][]api.Body{apart(v(3*one, 0, 0)), list(great, great)} {
				w := &fx.Work{}
				if rows := joint.Rows(w, with(kind, change), 0, 1, l); len(rows) != 0 || w.Bad {
					t.Errorf("%+v: %+v, Bad %v", with(kind, change), rows, w.Bad)
				}
			}
		}
	}
}

// TestJ2Bad: where something is too great, there are no rows at all.
func TestJ2Bad(t *testing.T) {
	x := v(one, 0, 0)
	far := 1 << 59 // eight times that is too great
	huge := api.Quat{W: 1 << 48, X: 1 << 46}
	small := api.Quat{W: one, X: 1 << 33, Y: 1 << 33, Z: 1 << 33}
	sock := func(a, b api.Vec) api.Joint {
		return with(api.Socket, func(j *api.Joint) { j.AtA, j.AtB = a, b })
	}
	checkRows(t, []wished{
		{"a rope to the furthest", rope(0), apart(v(far-1, 0, 0)), []api.Row{pulls(x, -8*(far-1))}, false},
		{"a rope too far", rope(0), apart(v(far, 0, 0)), nil, true},
		{"a long rope to the furthest", rope(1 << 42), apart(v(far+1<<42-1, 0, 0)), []api.Row{pulls(x, -8*(far-1))}, false},
		{"a long rope too far", rope(1 << 42), apart(v(far+1<<42, 0, 0)), nil, true},
		{"a rope too long to be told", rope(1 << 42), apart(v(most, most, most)), nil, true},
		{"a rope of a great place", rope(0), apart(v(most+1, 0, 0)), nil, true},
		{"a rope between great places", rope(9), list(at(v(most, 0, 0), straight()), at(v(most-9, 0, 0), straight())), nil, false},
		{"a socket to the furthest", plain(api.Socket), apart(v(0, 1-far, 0)), holds(v(0, 8*(far-1), 0)), false},
		{"a socket too far", plain(api.Socket), apart(v(0, far, 0)), nil, true},
		{"a weld too far", plain(api.Weld), apart(v(0, 0, -far)), nil, true},
		{"a hinge too far", plain(api.Hinge), apart(v(far, 0, 0)), nil, true},
		{"too great a gap", plain(api.Socket), list(at(v(most, 0, 0), straight()), at(v(-1, 0, 0), straight())), nil, true},
		{"too great a point", sock(v(1, 0, 0), v(1, 0, 0)), list(at(v(most, 0, 0), straight()), at(v(most, 0, 0), straight())), nil, true},
		{"A's great point", sock(v(1, 0, 0), v(-1, 0, 0)), list(at(v(most, 0, 0), straight()), at(v(most, 0, 0), straight())), nil, true},
		{"the greatest points", sock(v(-1, 0, 0), v(-2, 0, 0)), list(at(v(most, 0, 0), straight()), at(v(most, 0, 0), straight())),
			three(api.Row{ArmA: v(-1, 0, 0), ArmB: v(-2, 0, 0)}, v(8, 0, 0)), false},
		{"A's great turn", rope(9), list(at(api.Vec{}, huge), at(api.Vec{}, straight())), nil, true},
		{"B's great turn", rope(9), list(at(api.Vec{}, straight()), at(api.Vec{}, api.Quat{Z: most + 1})), nil, true},
		{"any turn", rope(9), turned(small, small), nil, false},
		{"no turn", plain(api.Weld), turned(api.Quat{}, api.Quat{}), append(holds(api.Vec{}), turns(api.Vec{})...), false},
	})
}

// TestJ2BadAxes: the axes of what is no Hinge are not reckoned.
func TestJ2BadAxes(t *testing.T) {
	l := apart(v(3*one, 0, 0))
	for _, kind := range []int{api.Rope, api.Socket, api.Weld} {
		want := joint.Rows(&fx.Work{}, plain(kind), 0, 1, l)
		w := &fx.Work{}
		got := joint.Rows(w, with(kind, func(j *api.Joint) { j.AxisA, j.AxisB = v(most+1, 0, 0), v(0, math.MinInt, most) }), 0, 1, l)
		if len(want) == 0 || !same(got, want) || w.Bad {
			t.Errorf("%d: %+v, Bad %v", kind, got, w.Bad)
		}
	}
}

// TestJ2NoAxis: by a turn that is not whole, and is 1 over the root of 2 along X, Z is
// turned to noughts: A's axis has then no ways across it.
func TestJ2NoAxis(t *testing.T) {
	flat := api.Quat{X: 3037000500}
	checkRows(t, []wished{
		{"A's", plain(api.Hinge), turned(flat, straight()), nil, true},
		{"B's", plain(api.Hinge), turned(straight(), flat), hinged(keeps(v(0, one, 0), 0), keeps(v(-one, 0, 0), 0)), false},
		{"of no Hinge", plain(api.Socket), turned(flat, straight()), holds(api.Vec{}), false},
	})
}

// TestJ2Bodies: nothing of a body but its pose bears upon its rows.
func TestJ2Bodies(t *testing.T) {
	for _, kind := range kinds() {
		l := list(at(v(one, 0, 0), round()), at(v(0, 5*one, 0), over()))
		want := joint.Rows(&fx.Work{}, plain(kind), 0, 1, l)
		bare := list(api.Body{Pose: l[0].Pose}, api.Body{Kind: api.Fixed, Pose: l[1].Pose, Mass: api.Mass{Mass: math.MinInt}, P: v(most+1, 0, 0)})
		w := &fx.Work{}
		if got := joint.Rows(w, plain(kind), 0, 1, bare); len(want) == 0 || !same(got, want) || w.Bad {
			t.Errorf("%d: %+v, not %+v", kind, got, want)
		}
	}
}

// TestMemory: what is handed in is not written into, nor what stands behind it; what
// comes out may be written into and grown.
func TestMemory(t *testing.T) {
	all := func() []api.Body {
		return list(at(v(one, 0, 0), round()), at(v(0, 5*one, 0), over()), at(v(7, 8, 9), straight()))
	}
	for _, kind := range kinds() {
		l, j := all(), with(kind, func(j *api.Joint) { j.Force = 3 })
		first := joint.Rows(&fx.Work{}, j, 0, 1, l[:2])
		want := slices.Clone(first)
		second := joint.Rows(&fx.Work{}, j, 0, 1, l[:2])
		for i := range first[:cap(first)] {
			first[:cap(first)][i] = api.Row{A: 77, Goal: 77}
		}
		if third := joint.Rows(&fx.Work{}, j, 0, 1, l[:2]); len(want) == 0 || !same(second, want) || !same(third, want) {
			t.Errorf("%d: %+v and %+v, not %+v", kind, second, third, want)
		}
		if !reflect.DeepEqual(l, all()) {
			t.Errorf("%d: a body was changed: %+v", kind, l)
		}
	}
}
