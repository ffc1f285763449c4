package sweep_test

import (
	"math"
	"slices"
	"testing"

	"tumbler/api"
	"tumbler/narrow"
	"tumbler/pose"
	"tumbler/shape"
	"tumbler/sweep"
)

const long = 1 << 20

func p(x, y, z int) api.Point { return api.Point{X: x, Y: y, Z: z} }

// list is the points of these numbers, three by three.
func list(parts ...int) []api.Point {
	var l []api.Point
	for i := 0; i+2 < len(parts); i += 3 {
		l = append(l, p(parts[i], parts[i+1], parts[i+2]))
	}
	return l
}

// points is a core without directions.
func points(parts ...int) api.Core { return api.Core{Points: list(parts...)} }

func ball(radius, x, y, z int) api.Core {
	return api.Core{Points: list(x, y, z), Radius: radius}
}

func coreOf(t *testing.T, s api.Shape) api.Core {
	t.Helper()
	c, e := shape.Core(s)
	if e != api.OK {
		t.Fatal(s, e)
	}
	return c
}

func brick(t *testing.T, radius, x, y, z int) api.Core {
	t.Helper()
	return coreOf(t, api.Shape{Kind: api.Brick, Radius: radius, Half: p(x, y, z)})
}

func moved(c api.Core, x, y, z int) api.Core { return pose.Moved(c, p(x, y, z)) }

func told(x, y, z, gap int) api.Apart { return api.Apart{Axis: p(x, y, z), Gap: gap} }

func apart(t *testing.T, a, b api.Core) api.Apart {
	t.Helper()
	x, ok := narrow.Apart(a, b)
	if !ok {
		t.Fatal(a, b)
	}
	return x
}

func same(a, b api.Core) bool {
	return slices.Equal(a.Points, b.Points) && slices.Equal(a.Axes, b.Axes) && slices.Equal(a.Edges, b.Edges) && a.Radius == b.Radius
}

func trails(t *testing.T, a api.Core, way api.Point, part int, want api.Core) {
	t.Helper()
	if got := sweep.Trail(a, way, part); !same(got, want) {
		t.Errorf("Trail %v %v %d: %v, not %v", a, way, part, got, want)
	}
}

func casts(t *testing.T, a api.Core, way api.Point, b api.Core, part int, x api.Apart) {
	t.Helper()
	if got, y, ok := sweep.Cast(a, way, b); !ok || got != part || y != x {
		t.Errorf("Cast %v %v %v: %d %v %v, not %d %v", a, way, b, got, y, ok, part, x)
	}
}

func castRefused(t *testing.T, a api.Core, way api.Point, b api.Core) {
	t.Helper()
	if part, x, ok := sweep.Cast(a, way, b); ok || part != 0 || x != (api.Apart{}) {
		t.Errorf("Cast %v %v %v: %d %v %v", a, way, b, part, x, ok)
	}
}

func overs(t *testing.T, a api.Core, l []api.Core, want ...int) {
	t.Helper()
	if got := sweep.Over(a, l); !slices.Equal(got, want) {
		t.Errorf("Over %v %v: %v, not %v", a, l, got, want)
	}
}

func nears(t *testing.T, a api.Core, l []api.Core, place int, x api.Apart) {
	t.Helper()
	if got, y, ok := sweep.Near(a, l); !ok || got != place || y != x {
		t.Errorf("Near %v %v: %d %v %v, not %d %v", a, l, got, y, ok, place, x)
	}
}

func nobodyNear(t *testing.T, a api.Core, l []api.Core) {
	t.Helper()
	if place, x, ok := sweep.Near(a, l); ok || place != -1 || x != (api.Apart{}) {
		t.Errorf("Near %v %v: %d %v %v", a, l, place, x, ok)
	}
}

// rays holds all three answers of Ray.
func rays(t *testing.T, from, way api.Point, l []api.Core, place, part int, is bool) {
	t.Helper()
	if got, n, ok := sweep.Ray(from, way, l); ok != is || got != place || n != part {
		t.Errorf("Ray %v %v %v: %d %d %v, not %d %d %v", from, way, l, got, n, ok, place, part, is)
	}
}

// into are the points with n in one of their parts, and rest in the others.
func into(n, rest int) []api.Point {
	return []api.Point{p(n, rest, rest), p(rest, n, rest), p(rest, rest, n)}
}

// beyond are numbers of a size above most.
func beyond(most int) []int {
	return []int{most + 1, -most - 1, 2 * most, 1 << 32, -1 << 32, 1 << 61, -1 << 61, 1 << 62, -1 << 62, math.MaxInt, math.MinInt, math.MinInt + 1}
}

// odd are cores of which something is wrong, one thing each.
func odd() []api.Core {
	l := []api.Core{
		{}, {Points: []api.Point{}, Axes: list(1, 0, 0), Edges: list(1, 0, 0), Radius: 1},
		{Points: make([]api.Point, 33)}, {Points: make([]api.Point, 1000)},
		{Points: make([]api.Point, 1), Axes: make([]api.Point, 129)},
		{Points: make([]api.Point, 1), Edges: make([]api.Point, 129)},
	}
	for _, n := range append(beyond(1<<16), -1, -2, -1<<16) {
		l = append(l, ball(n, 0, 0, 0))
	}
	for _, n := range beyond(1 << 24) {
		for _, q := range into(n, 0) {
			l = append(l, api.Core{Points: []api.Point{q}}, api.Core{Points: []api.Point{{}, {}, q}})
		}
	}
	for _, n := range beyond(1 << 20) {
		for _, q := range into(n, 0) {
			l = append(l, api.Core{Points: list(0, 0, 0), Axes: []api.Point{q}}, api.Core{Points: list(0, 0, 0), Edges: []api.Point{q}},
				api.Core{Points: list(0, 0, 0), Axes: []api.Point{{}, {X: 1}, q}}, api.Core{Points: list(0, 0, 0), Edges: []api.Point{{}, {X: 1}, q}})
		}
	}
	return l
}

// farWays are ways that may not be.
func farWays() []api.Point {
	var l []api.Point
	for _, n := range beyond(1 << 22) {
		for _, rest := range []int{0, 1, -1 << 22} {
			l = append(l, into(n, rest)...)
		}
	}
	return l
}

// filled is a list of so many points, with q the last one.
func filled(many int, q api.Point) []api.Point { return append(make([]api.Point, many-1), q) }

// unlike are so many directions, of which none is another one.
func unlike(many int) []api.Point {
	var l []api.Point
	for i := range many {
		l = append(l, p(1, 2, 5+i))
	}
	return l
}

func TestW1MayNotBe(t *testing.T) {
	none := api.Core{}
	for _, c := range odd() {
		trails(t, c, p(16, 0, 0), 1, none)
		trails(t, c, p(0, 0, 0), 0, none)
	}
	good := brick(t, 1, 2, 3, 4)
	for _, way := range farWays() {
		trails(t, good, way, 1, none)
		trails(t, good, way, 0, none)
	}
	for _, part := range []int{-1, -2, -16, 17, 18, 32, 1 << 32, -1 << 32, 1 << 60, math.MaxInt, math.MinInt} {
		trails(t, good, p(16, 0, 0), part, none)
		trails(t, good, p(0, 0, 0), part, none)
	}
	for _, many := range []int{17, 18, 32} {
		trails(t, api.Core{Points: make([]api.Point, many), Radius: 1}, p(16, 0, 0), 1, none)
	}
}

// TestW1MayBe has as much of all as may be.
func TestW1MayBe(t *testing.T) {
	const far, most = 1 << 24, 1 << 22
	a := api.Core{Points: filled(16, p(1, 2, 3)), Radius: 1 << 16}
	want := api.Core{Points: append(filled(16, p(1, 2, 3)), filled(16, p(1, 2, 3))...), Radius: 1 << 16}
	trails(t, a, p(0, 0, 0), 16, want)
	for _, n := range []int{most, -most} {
		for i, q := range into(n, 0) {
			for part := range 17 {
				by := into(n/16*part, 0)[i]
				trails(t, ball(0, 0, 0, 0), q, part, api.Core{Points: []api.Point{{}, by}, Edges: into(n/most, 0)[i : i+1]})
			}
		}
		// a trail's points may be beyond what may be: Trail tells them
		for i, q := range into(n*4, 0) {
			trails(t, api.Core{Points: []api.Point{q}}, into(n, 0)[i], 16, api.Core{Points: []api.Point{q, into(5*n, 0)[i]}, Edges: into(n/most, 0)[i : i+1]})
		}
	}
	trails(t, points(far, -far, far), p(1, -1, 1), 16, api.Core{Points: list(far, -far, far, far+1, -far-1, far+1), Edges: list(1, -1, 1)})
	full := api.Core{Points: list(0, 0, 0), Axes: filled(128, p(long, -long, long)), Edges: filled(128, p(-long, long, long))}
	trails(t, full, p(0, 0, 0), 16, api.Core{Points: list(0, 0, 0, 0, 0, 0), Axes: list(long, -long, long), Edges: list(-long, long, long)})
}

func TestW1Points(t *testing.T) {
	for _, x := range []struct {
		part int
		by   api.Point
	}{
		{0, p(0, 0, 0)}, {1, p(1, -1, 0)}, {2, p(3, -3, 0)}, {7, p(13, -13, 3)}, {8, p(15, -15, 3)}, {9, p(17, -17, 3)}, {15, p(29, -29, 6)}, {16, p(31, -31, 7)},
	} {
		want := api.Core{Points: list(5, 6, 7, -1, 0, 2, 5+x.by.X, 6+x.by.Y, 7+x.by.Z, -1+x.by.X, x.by.Y, 2+x.by.Z), Edges: list(31, -31, 7), Radius: 3}
		trails(t, api.Core{Points: list(5, 6, 7, -1, 0, 2), Radius: 3}, p(31, -31, 7), x.part, want)
	}
}

func TestW1Directions(t *testing.T) {
	const most = 1 << 22
	for _, x := range []struct {
		way, edge, axis, along api.Point
	}{
		{p(9, 0, 0), p(0, 1, 0), p(0, 0, -1), p(1, 0, 0)}, {p(9, 0, 0), p(0, 0, 1), p(0, 1, 0), p(1, 0, 0)},
		{p(0, 9, 0), p(1, 0, 0), p(0, 0, 1), p(0, 1, 0)}, {p(0, 9, 0), p(0, 0, 1), p(-1, 0, 0), p(0, 1, 0)},
		{p(0, 0, 9), p(1, 0, 0), p(0, -1, 0), p(0, 0, 1)}, {p(0, 0, -9), p(0, 1, 0), p(-1, 0, 0), p(0, 0, -1)},
		{p(6, -4, 0), p(0, 0, 5), p(2, 3, 0), p(3, -2, 0)},
		{p(6, 4, 2), p(2, 2, 2), p(-1, 2, -1), p(3, 2, 1)},
		{p(most-1, 1<<21+1, 7), p(1, 0, 0), p(0, -1, 1<<19), p(1<<20-1, 1<<19, 1)},               // the way is made short ahead of the cross
		{p(long, long, 1), p(long, -long, 1), p(-1, 0, long), p(long, long, 1)},                  // (-2^21, 0, 2^41): by 2^21
		{p(long, long-1, 1), p(long-1, long, 0), p(1<<19, 1-1<<19, 1-1<<20), p(long, long-1, 1)}, // (2^20, 1 - 2^20, 1 - 2^21): by 2, to nought
	} {
		a := api.Core{Points: list(0, 0, 0), Edges: []api.Point{x.edge}}
		want := api.Core{Points: list(0, 0, 0, 0, 0, 0), Axes: []api.Point{x.axis}, Edges: []api.Point{x.edge, x.along}}
		trails(t, a, x.way, 0, want)
	}
}

// TestW1Kept: a's own directions stay as they are, once or twice, ahead of the new ones.
func TestW1Kept(t *testing.T) {
	a := api.Core{Points: list(1, 1, 1), Axes: list(4, 6, 8, 4, 6, 8, -4, -6, -8), Edges: list(0, 4, 0, 0, 4, 0, 2, 0, 0, 0, -4, 0)}
	want := api.Core{Points: list(1, 1, 1, 5, 1, 1), Axes: list(4, 6, 8, 4, 6, 8, -4, -6, -8, 0, 0, -1, 0, 0, -1, 0, 0, 1), Edges: list(0, 4, 0, 0, 4, 0, 2, 0, 0, 0, -4, 0, 1, 0, 0)}
	trails(t, a, p(8, 0, 0), 8, want)
}

// TestW1Noughts: what has no direction is left out, and counts not.
func TestW1Noughts(t *testing.T) {
	a := api.Core{Points: list(0, 0, 0), Axes: list(0, 0, 0, 0, 1, 0, 0, 0, 0), Edges: list(0, 0, 0, 3, 0, 0, -3, 0, 0, 0, 0, 5, 0, 0, 0)}
	trails(t, a, p(16, 0, 0), 16, api.Core{Points: list(0, 0, 0, 16, 0, 0), Axes: list(0, 1, 0, 0, 1, 0), Edges: list(3, 0, 0, -3, 0, 0, 0, 0, 5, 1, 0, 0)})
	trails(t, a, p(0, 0, 0), 16, api.Core{Points: list(0, 0, 0, 0, 0, 0), Axes: list(0, 1, 0), Edges: list(3, 0, 0, -3, 0, 0, 0, 0, 5)})
	full := api.Core{Points: list(0, 0, 0), Axes: append(make([]api.Point, 2), unlike(126)...), Edges: append(list(0, 0, 0), unlike(127)...)}
	got := sweep.Trail(full, p(0, 0, 9), 1)
	if len(got.Axes) != 128 || got.Axes[126] != p(2, -1, 0) || got.Axes[127] != p(2, -1, 0) {
		t.Error(got.Axes)
	}
	if !slices.Equal(got.Edges, append(unlike(127), p(0, 0, 1))) {
		t.Error(got.Edges)
	}
}

// TestW1Most: of axes, and of edges, the first 128 stay.
func TestW1Most(t *testing.T) {
	for _, x := range []struct{ axes, edges, axesStay, edgesStay int }{
		{0, 0, 0, 1}, {128, 0, 128, 1}, {128, 128, 128, 128}, {127, 1, 128, 2}, {127, 2, 128, 3}, {126, 2, 128, 3}, {126, 1, 127, 2},
		{125, 126, 128, 127}, {1, 127, 128, 128}, {1, 128, 128, 128}, {0, 127, 127, 128}, {0, 128, 128, 128}, {2, 127, 128, 128},
	} {
		a := api.Core{Points: list(0, 0, 0), Axes: unlike(x.axes), Edges: unlike(x.edges)}
		var axes []api.Point
		for _, e := range a.Edges {
			axes = append(axes, shape.Short(p(e.Y, -e.X, 0)))
		}
		axes = append(unlike(x.axes), axes...)[:x.axesStay]
		edges := append(unlike(x.edges), p(0, 0, 1))[:x.edgesStay]
		trails(t, a, p(0, 0, 9), 16, api.Core{Points: list(0, 0, 0, 0, 0, 9), Axes: axes, Edges: edges})
	}
}

func TestW2MayNotBe(t *testing.T) {
	good, way := brick(t, 1, 2, 3, 4), p(16, 0, 0)
	for _, c := range odd() {
		castRefused(t, c, way, good)
		castRefused(t, good, way, c)
		castRefused(t, c, way, c)
	}
	for _, far := range farWays() {
		castRefused(t, good, far, good) // though they are in one another
		castRefused(t, ball(1, 0, 0, 0), far, ball(1, 9, 9, 9))
	}
	many := api.Core{Points: make([]api.Point, 17)}
	castRefused(t, many, way, good)
	castRefused(t, many, way, ball(1, 9, 9, 9))
	castRefused(t, api.Core{Points: make([]api.Point, 32)}, way, good)
}

// TestW2Far: the whole way is to end within what may be, however short the part that is
// gone.
func TestW2Far(t *testing.T) {
	const far = 1 << 24
	for _, sign := range []int{1, -1} {
		for i := range 3 {
			at := func(n int) api.Point { return into(n*sign, 0)[i] }
			one := func(n int) api.Core { return api.Core{Points: []api.Point{at(n)}} }
			castRefused(t, one(far), at(1), one(far))
			castRefused(t, one(far), at(1), one(0))
			castRefused(t, one(far-15), at(16), one(0))
			castRefused(t, one(far-100), at(1<<22), one(far-50))
			castRefused(t, api.Core{Points: []api.Point{{}, {}, at(far)}}, at(1), one(-far))
			casts(t, one(far-16), at(16), one(0), 16, api.Apart{Axis: at(-long), Gap: far - 16})
			casts(t, one(far), at(-1), one(far), 16, api.Apart{Axis: at(long)}) // the end of the trail of one point is that point
			casts(t, one(far), at(0), one(0), 16, api.Apart{Axis: at(-long), Gap: far})
		}
	}
}

func TestW2MayBe(t *testing.T) {
	const most = 1 << 22
	a := api.Core{Points: filled(16, p(0, 0, 0)), Radius: 1 << 16}
	b := ball(1<<16, most+1<<17, 0, 0)
	casts(t, a, p(most, 0, 0), b, 16, told(long, 0, 0, 0))
	casts(t, a, p(most, 0, 0), moved(b, -1, 0, 0), 15, told(long, 0, 0, most/16-1))
	wide := api.Core{Points: slices.Repeat(b.Points, 32), Axes: filled(128, p(long, 0, 0)), Edges: filled(128, p(0, long, 0)), Radius: 1 << 16}
	full := api.Core{Points: filled(16, p(0, 0, 0)), Axes: filled(128, p(0, 0, long)), Edges: filled(128, p(0, 0, -long)), Radius: 1 << 16}
	casts(t, full, p(most, 0, 0), wide, 16, told(long, 0, 0, 0))
	casts(t, full, p(most, 0, 0), moved(wide, -1, 0, 0), 15, told(long, 0, 0, most/16-1))
}

// TestW2Part: a ball that goes 32 grains meets another one behind each of its parts.
func TestW2Part(t *testing.T) {
	a := ball(2, 0, 0, 0)
	for _, x := range []struct{ at, part, gap int }{
		{3, 0, -1}, {4, 0, 0}, {5, 0, 1}, {6, 1, 0}, {7, 1, 1}, {8, 2, 0}, {20, 8, 0}, {21, 8, 1}, {33, 14, 1}, {34, 15, 0}, {35, 15, 1}, {36, 16, 0}, {37, 16, 1}, {90, 16, 54},
	} {
		for i, way := range into(32, 0) {
			b := api.Core{Points: into(x.at, 0)[i : i+1], Radius: 2}
			casts(t, a, way, b, x.part, api.Apart{Axis: into(long, 0)[i], Gap: x.gap})
			back, there := into(-32, 0)[i], api.Core{Points: into(-x.at, 0)[i : i+1], Radius: 2}
			casts(t, a, back, there, x.part, api.Apart{Axis: into(-long, 0)[i], Gap: x.gap})
		}
	}
}

// TestW2Within: who is in the other one goes nowhere, and is told how it is now.
func TestW2Within(t *testing.T) {
	a := brick(t, 0, 2, 2, 2)
	b := moved(a, 3, 0, 0)
	for _, way := range []api.Point{p(0, 0, 0), p(160, 0, 0), p(-160, 0, 0), p(0, 1, 0)} {
		casts(t, a, way, b, 0, told(long, 0, 0, -1))
		casts(t, b, way, a, 0, told(-long, 0, 0, -1))
	}
	casts(t, a, p(-160, 0, 0), moved(a, 4, 0, 0), 16, told(long, 0, 0, 0)) // who only touches may go away
	casts(t, a, p(160, 0, 0), moved(a, 4, 0, 0), 0, told(long, 0, 0, 0))
	casts(t, a, p(0, 160, 0), moved(a, 4, 0, 0), 16, told(long, 0, 0, 0)) // and along it
}

// TestW2Trail: the Apart is that of the trail, not that of where it ends.
func TestW2Trail(t *testing.T) {
	a, b := ball(2, 0, 0, 0), ball(2, 20, 9, 0)
	casts(t, a, p(160, 0, 0), b, 16, told(0, long, 0, 5))
	casts(t, a, p(160, 0, 0), moved(b, 0, -4, 0), 16, told(0, long, 0, 1))
	casts(t, a, p(160, 0, 0), moved(b, 0, -6, 0), 1, apart(t, sweep.Trail(a, p(160, 0, 0), 1), moved(b, 0, -6, 0)))
	casts(t, a, p(0, 0, 0), b, 16, apart(t, a, b))
	// a brick whose corner goes for a corner: (-9 -9 -9) is 15.6 from (0 0 0)
	corner := coreOf(t, api.Shape{Kind: api.Hull, Points: list(0, 0, 0, 40, 0, 0, 0, 40, 0, 0, 0, 40)})
	going := moved(brick(t, 0, 1, 1, 1), -20, -20, -20)
	part, x, ok := sweep.Cast(going, p(160, 160, 160), corner)
	if !ok || part != 1 || x != apart(t, sweep.Trail(going, p(160, 160, 160), 1), corner) || x != told(long, long, long, 15) {
		t.Error(part, x, ok)
	}
}

// TestW2Fast: nothing is gone through, however far a sixteenth takes.
func TestW2Fast(t *testing.T) {
	wall := moved(brick(t, 0, 1, 900, 900), 5000, 0, 0)
	casts(t, ball(10, 0, 0, 0), p(1<<20, 0, 0), wall, 0, told(long, 0, 0, 4989))
	casts(t, ball(10, 0, 0, 0), p(16*4989, 0, 0), wall, 1, told(long, 0, 0, 0))
	casts(t, ball(10, 0, 0, 0), p(16*4990, 0, 0), wall, 0, told(long, 0, 0, 4989))
}

func TestW3MayNotBe(t *testing.T) {
	good := brick(t, 1, 2, 3, 4)
	all := odd()
	overs(t, good, all)
	nobodyNear(t, good, all)
	for _, c := range all {
		overs(t, c, []api.Core{good, c})
		nobodyNear(t, c, []api.Core{good, c})
	}
	all = append(all, good)
	last := len(all) - 1
	overs(t, good, all, last)
	nears(t, good, all, last, apart(t, good, good))
	for _, l := range [][]api.Core{nil, {}} {
		overs(t, good, l)
		nobodyNear(t, good, l)
	}
	many := api.Core{Points: make([]api.Point, 32)} // who does not go may have as many
	overs(t, many, []api.Core{good, many}, 0, 1)
	nears(t, many, []api.Core{good, many}, 0, apart(t, many, good))
}

func TestW3Over(t *testing.T) {
	a := ball(2, 0, 0, 0)
	l := []api.Core{ball(3, 7, 0, 0), ball(3, 0, 6, 0), ball(3, 0, 0, -5), ball(3, 0, -4, 0), {}, ball(3, 0, 0, 0), ball(3, -5, 0, 0), ball(3, 0, 0, 6)}
	overs(t, a, l, 2, 3, 5, 6)
	overs(t, moved(a, 1, 0, 0), l[:1])
	overs(t, moved(a, 2, 0, 0), l[:1], 0)
	overs(t, moved(a, 0, 1, 0), l[:4], 1, 2, 3) // the third is 5.1 away: a Gap of 0
}

func TestW3Near(t *testing.T) {
	a := ball(2, 0, 0, 0)
	for _, x := range []struct {
		l     []api.Core
		place int
		told  api.Apart
	}{
		{[]api.Core{ball(3, 9, 0, 0)}, 0, told(long, 0, 0, 4)},
		{[]api.Core{ball(3, 9, 0, 0), ball(3, -8, 0, 0)}, 1, told(-long, 0, 0, 3)},
		{[]api.Core{ball(3, 9, 0, 0), ball(3, 0, 9, 0), ball(3, 0, 0, 9)}, 0, told(long, 0, 0, 4)},
		{[]api.Core{{}, ball(3, 9, 0, 0), ball(2, 0, 8, 0), ball(3, 0, 0, -9)}, 1, told(long, 0, 0, 4)},
		{[]api.Core{ball(-1, 0, 0, 0), ball(3, 99, 0, 0), {}, ball(3, 0, -50, 0), {}}, 3, told(0, -long, 0, 45)},
		{[]api.Core{ball(3, 4, 0, 0), ball(3, 0, 3, 0), ball(3, 5, 0, 0)}, 1, told(0, long, 0, -2)}, // the deepest is the nearest
		{[]api.Core{ball(3, 5, 0, 0), ball(3, 0, 4, 0), ball(3, 0, 0, 4)}, 1, told(0, long, 0, -1)},
		{[]api.Core{ball(3, 0, 5, 0), ball(3, 6, 0, 0)}, 0, told(0, long, 0, 0)},
	} {
		nears(t, a, x.l, x.place, x.told)
	}
}

func TestW4MayNotBe(t *testing.T) {
	l := []api.Core{ball(2, 0, 0, 0), ball(2, 20, 0, 0)}
	for _, n := range beyond(1 << 24) {
		for _, rest := range []int{0, 1, -1 << 24} {
			for _, q := range into(n, rest) {
				rays(t, q, p(16, 0, 0), l, -1, 0, false)
				rays(t, q, p(0, 0, 0), nil, -1, 0, false)
			}
		}
	}
	for _, way := range farWays() {
		rays(t, p(0, 0, 0), way, l, -1, 0, false)
		rays(t, p(0, 0, 0), way, nil, -1, 0, false)
	}
	rays(t, p(0, 0, 0), p(16, 0, 0), odd(), -1, 16, false)
	all := append(odd(), l[1])
	rays(t, p(9, 0, 0), p(16, 0, 0), all, len(all)-1, 9, true)
	rays(t, p(0, 0, 0), p(16, 0, 0), nil, -1, 16, false)
	rays(t, p(0, 0, 0), p(16, 0, 0), []api.Core{}, -1, 16, false)
}

// TestW4Far: a way that leaves what may be has nothing that Cast tells.
func TestW4Far(t *testing.T) {
	const far, most = 1 << 24, 1 << 22
	for _, sign := range []int{1, -1} {
		for i := range 3 {
			at := func(n int) api.Point { return into(n*sign, 0)[i] }
			l := []api.Core{{Points: []api.Point{at(far)}, Radius: 5}, {Points: []api.Point{at(0)}, Radius: 5}}
			rays(t, at(far), at(1), l, -1, 16, false)
			rays(t, at(far-most+1), at(most), l, -1, 16, false)
			rays(t, at(far-most), at(most), l, 0, 15, true)
			rays(t, at(far), at(0), l, 0, 0, true)
			rays(t, at(far), at(-1), l, 0, 0, true)
			rays(t, at(-far+most), at(-most), l[1:], -1, 16, false)
			rays(t, at(-most), at(most), l, 1, 15, true)
		}
	}
}

func TestW4Ray(t *testing.T) {
	l := []api.Core{ball(2, 100, 0, 0), {}, ball(2, 20, 0, 0), ball(2, 3, 0, 0), ball(3, 21, 0, 0)}
	for _, x := range []struct {
		from, way   api.Point
		place, part int
		is          bool
	}{
		{p(9, 0, 0), p(160, 0, 0), 2, 0, true},
		{p(9, 0, 0), p(16, 0, 0), 2, 9, true},
		{p(3, 0, 0), p(16, 0, 0), 3, 0, true}, // within it
		{p(5, 0, 0), p(16, 0, 0), 2, 13, true},
		{p(5, 0, 0), p(-16, 0, 0), 3, 0, true},
		{p(6, 0, 0), p(-16, 0, 0), 3, 1, true},
		{p(2, 0, 0), p(16, 0, 0), 3, 0, true},
		{p(9, 0, 0), p(0, 16, 0), -1, 16, false},
		{p(9, 0, 0), p(9, 0, 0), -1, 16, false},
		{p(9, 0, 0), p(10, 0, 0), 2, 15, true},
		{p(90, 0, 0), p(160, 0, 0), 0, 0, true},
		{p(90, 0, 0), p(32, 0, 0), 0, 4, true},
		{p(30, 0, 0), p(-16, 0, 0), 4, 6, true},
		{p(30, 0, 0), p(-160, 0, 0), 2, 0, true}, // a sixteenth takes it to both: the first one of equals
		{p(9, 0, 0), p(0, 0, 0), -1, 16, false},
		{p(20, 0, 0), p(0, 0, 0), 2, 0, true},
		{p(20, 0, 0), p(0, 0, 160), 2, 0, true},
		{p(22, 2, 0), p(0, -16, 0), 4, 0, true}, // in the fifth, not in the third
	} {
		rays(t, x.from, x.way, l, x.place, x.part, x.is)
	}
}

// TestW4First: of equals the first one, wherever in the list.
func TestW4First(t *testing.T) {
	near, far := ball(2, 20, 0, 0), ball(2, 40, 0, 0)
	for _, x := range []struct {
		l     []api.Core
		place int
		part  int
	}{
		{[]api.Core{near, near}, 0, 4}, {[]api.Core{far, near, near}, 1, 4}, {[]api.Core{{}, far, far, {}, near}, 4, 4}, {[]api.Core{far, far, {}}, 0, 9}, {[]api.Core{near, far}, 0, 4},
	} {
		rays(t, p(0, 0, 0), p(64, 0, 0), x.l, x.place, x.part, true)
	}
}

// TestHandedIn: nothing is written into what is handed in, nor behind it, nor is it
// kept.
func TestHandedIn(t *testing.T) {
	room := list(1, 2, 3, 4, 2, 6, 2, 0, 0, 0, 4, 0, 0, 0, 6, 77, 77, 77)
	a := api.Core{Points: room[:2], Axes: room[2:4], Edges: room[4:5], Radius: 4}
	was := slices.Clone(room)
	l := []api.Core{a, ball(2, 20, 0, 0), {}, a, ball(9, 9, 9, 9)}[:4]
	way := p(32, 0, 0)
	trail := sweep.Trail(a, way, 3)
	kept := api.Core{Points: slices.Clone(trail.Points), Axes: slices.Clone(trail.Axes), Edges: slices.Clone(trail.Edges), Radius: trail.Radius}
	sweep.Cast(a, way, a)
	sweep.Cast(moved(a, -90, 0, 0), way, a)
	over := sweep.Over(a, l)
	sweep.Near(a, l)
	sweep.Ray(p(-20, 2, 3), way, l)
	if !slices.Equal(room, was) || !same(l[0], a) || !same(l[1], ball(2, 20, 0, 0)) || !same(l[2], api.Core{}) || !same(l[3], a) || !same(l[:5][4], ball(9, 9, 9, 9)) {
		t.Error(room, l)
	}
	clear(room)
	clear(l)
	if !same(trail, kept) || !slices.Equal(over, []int{0, 3}) {
		t.Error(trail, kept, over)
	}
}

// scribbled writes into all of a list's memory, spare room too.
func scribbled[T any](l []T, x T) {
	for i := range l[:cap(l)] {
		l[:cap(l)][i] = x
	}
}

// TestNewMemory: what comes out may be written into and grown, and nothing else is
// changed.
func TestNewMemory(t *testing.T) {
	full := api.Core{Points: list(1, 2, 3), Axes: unlike(128), Edges: unlike(128)}
	for _, a := range []api.Core{ball(2, 0, 0, 0), brick(t, 1, 2, 3, 4), full, {Points: list(0, 0, 0), Axes: list(1, 0, 0)}} {
		for _, way := range []api.Point{{}, p(0, 0, 160)} {
			was := api.Core{Points: slices.Clone(a.Points), Axes: slices.Clone(a.Axes), Edges: slices.Clone(a.Edges), Radius: a.Radius}
			first, second := sweep.Trail(a, way, 5), sweep.Trail(a, way, 5)
			third := sweep.Trail(a, way, 5)
			scribbled(first.Points, p(7, 7, 7))
			if !slices.Equal(first.Axes, second.Axes) || !slices.Equal(first.Edges, second.Edges) {
				t.Error(first, second)
			}
			scribbled(first.Axes, p(7, 7, 7))
			if !slices.Equal(first.Edges, second.Edges) {
				t.Error(first, second)
			}
			scribbled(first.Edges, p(7, 7, 7))
			if !same(second, third) || !same(sweep.Trail(a, way, 5), third) || !same(a, was) {
				t.Error(a, second, third)
			}
		}
	}
	l := []api.Core{ball(2, 0, 0, 0), ball(2, 1, 0, 0), ball(2, 2, 0, 0)}
	first, second := sweep.Over(l[0], l), sweep.Over(l[0], l)
	scribbled(first, 77)
	if !slices.Equal(second, []int{0, 1, 2}) || !slices.Equal(sweep.Over(l[0], l), second) {
		t.Error(second)
	}
}

func TestExamples(t *testing.T) {
	a, b := ball(2, 0, 0, 0), ball(2, 20, 0, 0)
	casts(t, a, p(32, 0, 0), b, 8, told(long, 0, 0, 0))
	casts(t, moved(a, 17, 0, 0), p(32, 0, 0), b, 0, told(long, 0, 0, -1))
	both := []api.Core{a, b}
	rays(t, p(0, 0, 0), p(160, 0, 0), both, 0, 0, true)
	nears(t, moved(a, 30, 0, 0), both, 1, told(-long, 0, 0, 6))
}
