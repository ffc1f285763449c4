package solver_test

import (
	"math"
	"reflect"
	"slices"
	"testing"

	"tumbler/api"
	"tumbler/fx"
	"tumbler/solver"
)

const (
	one   = api.One
	most  = api.Most
	press = 1 << 44 // the upper end of a normal row
)

// v is a vector, and at a point, written shortly.
func v(x, y, z int) api.Vec    { return api.Vec{X: x, Y: y, Z: z} }
func at(x, y, z int) api.Point { return api.Point{X: x, Y: y, Z: z} }

// some is a Moving body there, whose fields are all told.
func some(place api.Vec) api.Body {
	return api.Body{
		Kind: api.Moving, Pose: api.Pose{At: place, Turn: api.Quat{W: one}}, P: v(2*one, -4*one, 6*one), L: v(4*one, 6*one, -8*one),
		Mass:  api.Mass{Mass: 2 * one, Inertia: v(one, 2*one, 4*one)},
		Shape: api.Shape{Kind: api.Hull, Radius: 9, Half: at(1, 2, 3), Points: []api.Point{{}, {X: 4}, {Y: 4}, {Z: 4}}},
		Group: 3, Mask: 5, Friction: one / 2, Fast: true, Quiet: 7, Asleep: true, Out: true,
	}
}

// kind is some body of another kind.
func kind(n int, place api.Vec) api.Body {
	b := some(place)
	b.Kind = n
	return b
}

func list(l ...api.Body) []api.Body { return l }

// spots are some of these depths, all in the middle.
func spots(depths ...int) []api.Spot {
	var out []api.Spot
	for i, n := range depths {
		out = append(out, api.Spot{Depth: n, ID: 256 + i})
	}
	return out
}

// up is a patch of these spots, along Y.
func up(s ...api.Spot) api.Patch { return api.Patch{Axis: at(0, 1<<20, 0), Spots: s} }

// checkRows asks with a work that is not Bad and with one that is: the rows are the
// same, the flag is never taken back, and must be set if bad.
func checkRows(t *testing.T, name string, x asked, want []api.Row, bad bool) {
	t.Helper()
	for _, was := range []bool{false, true} {
		w := &fx.Work{Bad: was}
		if got := solver.Rows(w, x.p, x.a, x.b, x.l, x.rub, x.first); !slices.Equal(got, want) {
			t.Errorf("%s: %+v, not %+v", name, got, want)
		}
		if w.Bad != (was || bad) {
			t.Errorf("%s: Bad ahead %v: Bad %v", name, was, w.Bad)
		}
	}
}

// TestV1Example is the chapter's.
func TestV1Example(t *testing.T) {
	ball := some(api.Vec{})
	want := []api.Row{{A: -1, B: 0, Way: v(0, one, 0), High: press, Of: -1}}
	checkRows(t, "a ball on the ground", asked{p: up(spots(0)...), a: -1, l: list(ball)}, want, false)
}

// TestV1Ways: the normal row goes along the axis, however long that is; what rubs goes
// across it.
func TestV1Ways(t *testing.T) {
	x, y, z := v(one, 0, 0), v(0, one, 0), v(0, 0, one)
	back := func(a api.Vec) api.Vec { return v(-a.X, -a.Y, -a.Z) }
	for _, c := range []struct {
		axis    api.Point
		n, t, u api.Vec
	}{
		{at(1<<20, 0, 0), x, z, back(y)},
		{at(-1<<20, 0, 0), back(x), back(z), back(y)},
		{at(0, 1<<20, 0), y, back(z), back(x)},
		{at(0, -1<<20, 0), back(y), z, back(x)},
		{at(0, 0, 1<<20), z, y, back(x)},
		{at(0, 0, -1<<20), back(z), back(y), back(x)},
		{at(1, 0, 0), x, z, back(y)},
		{at(0, 0, -3), back(z), back(y), back(x)},
		{at(1<<50-1, 0, 0), x, z, back(y)},
		{at(0, 1-1<<50, 0), back(y), z, back(x)},
		{at(3, 0, 4), v(2576980377, 0, 3435973836), v(-3435973837, 0, 2576980377), v(0, 1-one, 0)},
		{at(0, 4, 3), v(0, 3435973836, 2576980377), v(0, 2576980377, -3435973837), v(1-one, 0, 0)},
		// How long this one is, 7094 and something, is told down.
		{at(1, 1, 1), v(2479868345, 2479868345, 2479868345), v(0, 3037000500, -3037000501), v(-3507063448, 1753531723, 1753531723)},
		{at(1<<20, 1<<20, 1<<20), v(2479700524, 2479700524, 2479700524), v(0, 3037000500, -3037000501), v(-3506826113, 1753413056, 1753413055)},
		// Of the parts of n, as they are told down, the least is not always that of the axis.
		{at(-1, 2, 1), v(-1753432278, 3506864555, 1753432277), v(3841535534, 1920767767, 0), v(-784158754, 1568317506, -3920793767)},
		{at(1<<20, -1<<20, -1<<20), v(2479700524, -2479700525, -2479700525), v(0, -3037000501, 3037000500), v(-3506826114, -1753413056, -1753413057)},
		{at(5, -3, 4), v(3037010331, -1822206199, 2429608264), v(-2683044799, 0, 3353805999), v(-1422903986, -3889270892, -1138323189)},
		{at(2, 1, 1), v(3506864555, 1753432277, 1753432277), v(-1920767767, 0, 3841535534), v(1568317506, -3920793767, 784158753)},
		{at(1, 2, 1), v(1753432277, 3506864555, 1753432277), v(0, 1920767766, -3841535535), v(-3920793767, 1568317506, 784158752)},
		{at(2, 3, 1), v(2295880723, 3443821085, 1147940361), v(3573628803, -2382419203, 0), v(636762743, 955144115, -4138957836)},
	} {
		w := &fx.Work{}
		rows := solver.Rows(w, api.Patch{Axis: c.axis, Spots: spots(0)}, -1, -1, nil, one, 0)
		if len(rows) != 3 || w.Bad {
			t.Fatalf("%v: %+v, Bad %v", c.axis, rows, w.Bad)
		}
		for i, want := range []api.Vec{c.n, c.t, c.u} {
			if got := rows[i].Way; got != want {
				t.Errorf("%v: way %d: %v, not %v", c.axis, i, got, want)
			}
		}
	}
}

// TestV1Axis: what is no direction, or is too great, makes the work Bad.
func TestV1Axis(t *testing.T) {
	for _, axis := range []api.Point{
		{}, {X: 1 << 50}, {Y: -1 << 50}, {Z: 1 << 52}, {X: 1 << 61}, {X: math.MaxInt}, {Y: math.MinInt}, {X: 1, Z: math.MinInt},
		{X: 1<<50 - 1, Y: 1<<50 - 1}, {X: 1 << 49, Y: -1 << 49, Z: 1<<50 - 1},
	} {
		for _, rub := range []int{0, one} {
			checkRows(t, "a bad axis", asked{p: api.Patch{Axis: axis, Spots: spots(0, 1)}, a: -1, l: list(some(api.Vec{})), rub: rub}, nil, true)
		}
	}
}

// TestV1Goal tells a normal row's Goal by the Depth.
func TestV1Goal(t *testing.T) {
	for depth, goal := range map[int]int{
		-1 << 20: -1 << 46, -64: -one, -2: -1 << 27, -1: -1 << 26, 0: 0, 1: 0, 2: 1 << 23, 3: 1 << 24, 512: one - 1<<23, 513: one, 514: one, 1 << 20: one,
	} {
		want := []api.Row{{A: -1, Way: v(0, one, 0), Goal: goal, High: press, Of: -1}}
		checkRows(t, "a depth", asked{p: up(spots(depth)...), a: -1, l: list(some(api.Vec{}))}, want, false)
		w := &fx.Work{}
		rows := solver.Rows(w, up(spots(depth)...), -1, 0, list(some(api.Vec{})), one, 0)
		if len(rows) != 3 || w.Bad || rows[0].Goal != goal || rows[1].Goal != 0 || rows[2].Goal != 0 {
			t.Errorf("%d: %+v, Bad %v", depth, rows, w.Bad)
		}
	}
	for _, depth := range []int{1<<20 + 1, -1<<20 - 1, 1 << 40, -1 << 40, most, -most, math.MaxInt, math.MinInt} {
		checkRows(t, "too great a depth", asked{p: up(spots(depth)...), a: -1, l: list(some(api.Vec{}))}, nil, true)
		checkRows(t, "too great a depth, the last one", asked{p: up(spots(1, 2, depth)...), a: -1, l: list(some(api.Vec{})), rub: 1}, nil, true)
		checkRows(t, "too great a depth, the first one", asked{p: up(spots(depth, 1, 2)...), a: -1, l: list(some(api.Vec{}))}, nil, true)
	}
}

// TestV1Arms: arms go from the bodies' places, whether they move or not, to the spot;
// nobody has one.
func TestV1Arms(t *testing.T) {
	p := up(api.Spot{At: at(4096, -8192, 1), ID: 3})
	spot := v(one, -2*one, 1<<20)
	l := list(some(v(one, 2*one, 3*one)), kind(api.Fixed, v(5, 6, 7)), kind(0, v(-one, 0, 9)))
	arms := []api.Vec{v(0, -4*one, 1<<20-3*one), v(one-5, -2*one-6, 1<<20-7), v(2*one, -2*one, 1<<20-9)}
	for a := range l {
		for b := range l {
			want := []api.Row{{A: a, B: b, Way: v(0, one, 0), ArmA: arms[a], ArmB: arms[b], High: press, Of: -1}}
			checkRows(t, "arms", asked{p: p, a: a, b: b, l: l}, want, false)
		}
	}
	for _, nobody := range []int{-1, 3, 4, math.MinInt, math.MaxInt} {
		want := []api.Row{{A: nobody, B: 0, Way: v(0, one, 0), ArmB: arms[0], High: press, Of: -1}}
		checkRows(t, "nobody as A", asked{p: p, a: nobody, l: l}, want, false)
		want = []api.Row{{A: 2, B: nobody, Way: v(0, one, 0), ArmA: arms[2], High: press, Of: -1}}
		checkRows(t, "nobody as B", asked{p: p, a: 2, b: nobody, l: l}, want, false)
		want = []api.Row{{A: nobody, B: nobody, Way: v(0, one, 0), High: press, Of: -1}}
		checkRows(t, "nobody at all", asked{p: p, a: nobody, b: nobody, l: l}, want, false)
		checkRows(t, "nobody of no list", asked{p: p, a: nobody, b: nobody}, want, false)
	}
	middle := list(some(api.Vec{}))
	want := []api.Row{{A: -1, Way: v(0, one, 0), ArmB: spot, High: press, Of: -1}}
	checkRows(t, "from the middle", asked{p: p, a: -1, l: middle}, want, false)
}

// TestV1Far: a place and an arm that can not be told make the work Bad.
func TestV1Far(t *testing.T) {
	const last = 1<<42 - 1 // grains: 2^62 - 2^20 FX
	row := func(arm api.Vec) []api.Row {
		return []api.Row{{A: -1, Way: v(0, one, 0), ArmB: arm, High: press, Of: -1}}
	}
	for _, c := range []struct {
		spot  api.Point
		place api.Vec
		arm   api.Vec
		bad   bool
	}{
		{at(last, 0, 0), api.Vec{}, v(last<<20, 0, 0), false},
		{at(0, -last, 0), api.Vec{}, v(0, -last<<20, 0), false},
		{at(0, 0, last), v(0, 0, 1-1<<20), v(0, 0, most), false},
		{at(0, 0, last), v(0, 0, -1<<20), api.Vec{}, true},
		{at(-last, 0, 0), v(1<<20-1, 0, 0), v(-most, 0, 0), false},
		{at(-last, 0, 0), v(1<<20, 0, 0), api.Vec{}, true},
		{at(last+1, 0, 0), v(most, 0, 0), api.Vec{}, true},
		{at(0, -last-1, 0), v(0, -most, 0), api.Vec{}, true},
		{at(0, 0, math.MinInt), api.Vec{}, api.Vec{}, true},
		{at(0, 0, math.MaxInt), api.Vec{}, api.Vec{}, true},
		{at(1<<44, 0, 0), api.Vec{}, api.Vec{}, true}, // as a product of ints it would be 0
		{api.Point{}, v(0, most+1, 0), api.Vec{}, true},
		{api.Point{}, v(0, 0, -most), v(0, 0, most), false},
	} {
		want := row(c.arm)
		if c.bad {
			want = nil
		}
		x := asked{p: up(api.Spot{At: c.spot}), a: -1, l: list(some(c.place))}
		checkRows(t, "far away", x, want, c.bad)
		// The other body's arm is asked as well, and so is a spot behind another one.
		if c.bad {
			x.a, x.b = 0, -1
			checkRows(t, "far away, A", x, nil, true)
			x.p.Spots = append(spots(0), x.p.Spots...)
			checkRows(t, "far away, behind another one", x, nil, true)
		}
	}
	nobody := asked{p: up(api.Spot{At: at(last+1, 0, 0)}), a: -1, b: -1}
	checkRows(t, "a spot too far away, of nobody", nobody, nil, true)
	nobody.p.Spots[0].At.X = last
	checkRows(t, "a spot just not too far away, of nobody", nobody, []api.Row{{A: -1, B: -1, Way: v(0, one, 0), High: press, Of: -1}}, false)
}

// TestV1Rubs: what rubs stands behind its normal row and names it; of a rub that is
// not above 0 there is nothing.
func TestV1Rubs(t *testing.T) {
	p := up(api.Spot{At: at(4096, 0, 0), Depth: 3}, api.Spot{At: at(0, 0, -4096)}, api.Spot{Depth: -1})
	l := list(some(v(0, one, 0)))
	arms := []api.Vec{v(one, -one, 0), v(0, -one, -one), v(0, -one, 0)}
	goals := []int{2 << 23, 0, -1 << 26}
	rows := func(rub, first int) []api.Row {
		var out []api.Row
		for i, arm := range arms {
			out = append(out, api.Row{A: -1, Way: v(0, one, 0), ArmB: arm, Goal: goals[i], High: press, Of: -1})
			if rub > 0 {
				out = append(out, api.Row{A: -1, Way: v(0, 0, -one), ArmB: arm, Of: first + 3*i, Rub: rub})
				out = append(out, api.Row{A: -1, Way: v(-one, 0, 0), ArmB: arm, Of: first + 3*i, Rub: rub})
			}
		}
		return out
	}
	for _, rub := range []int{math.MinInt, -most - 1, -one, -1, 0, 1, one / 2, one, most, most + 1, math.MaxInt} {
		for _, first := range []int{0, 1, 10, -1, -7, 1 << 40, most - 6, -most} {
			checkRows(t, "what rubs", asked{p: p, a: -1, l: l, rub: rub, first: first}, rows(rub, first), false)
		}
		for _, first := range []int{most - 5, most - 3, most, most + 1, -most - 1, math.MaxInt, math.MinInt} {
			want := rows(rub, 0)
			if rub > 0 {
				want = nil
			}
			checkRows(t, "a place that is too great", asked{p: p, a: -1, l: l, rub: rub, first: first}, want, rub > 0)
		}
	}
}

// TestV1NoSpots: of a patch without spots nothing is reckoned.
func TestV1NoSpots(t *testing.T) {
	for _, axis := range []api.Point{{}, at(0, 1<<20, 0), at(math.MinInt, 0, 0)} {
		for _, none := range [][]api.Spot{nil, {}} {
			l := list(some(v(math.MinInt, most+1, 0)))
			checkRows(t, "no spots", asked{p: api.Patch{Axis: axis, Spots: none}, l: l, rub: one, first: math.MaxInt}, nil, false)
		}
	}
}

// TestV1Many: a patch may have more spots than layer 10 tells.
func TestV1Many(t *testing.T) {
	x := asked{p: up(spots(5, 4, 3, 2, 1, 0, -1, -2, -3)...), a: 1, l: list(some(v(one, 0, 0)), some(v(0, one, 0))), rub: 9, first: 100}
	want, bad := x.book()
	if len(want) != 27 || bad {
		t.Fatal(len(want), bad)
	}
	checkRows(t, "nine spots", x, want, false)
}

// TestV1Memory: nothing that is handed in is written into, and what comes out is its
// owner's.
func TestV1Memory(t *testing.T) {
	room := spots(1, 2, 3, 77)
	l := list(some(v(one, 0, 0)), some(v(0, one, 0)), some(v(0, 0, one)))
	ask := func() []api.Row {
		return solver.Rows(&fx.Work{}, up(room[:3]...), 0, 1, l[:2], one, 4)
	}
	first, second := ask(), ask()
	kept := slices.Clone(second)
	for i := range first {
		first[i] = api.Row{Sum: 5}
	}
	_ = append(first[:0], make([]api.Row, cap(first))...)
	if !slices.Equal(second, kept) || !slices.Equal(ask(), kept) || len(kept) != 9 {
		t.Error("answers share memory:", second, kept)
	}
	if !slices.Equal(room, spots(1, 2, 3, 77)) || !reflect.DeepEqual(l, list(some(v(one, 0, 0)), some(v(0, one, 0)), some(v(0, 0, one)))) {
		t.Error("written into:", room, l)
	}
}
