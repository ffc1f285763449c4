package pose_test

import (
	"math"
	"reflect"
	"slices"
	"testing"

	"tumbler/api"
	"tumbler/pose"
	"tumbler/shape"
)

const one = api.One

func p(x, y, z int) api.Point { return api.Point{X: x, Y: y, Z: z} }

func v(x, y, z int) api.Vec { return api.Vec{X: x, Y: y, Z: z} }

func turn(w, x, y, z int) api.Quat { return api.Quat{W: w, X: x, Y: y, Z: z} }

// at is the pose there, not turned.
func at(x, y, z int) api.Pose { return api.Pose{At: v(x, y, z), Turn: turn(one, 0, 0, 0)} }

func box(a, b, c, x, y, z int) api.Box { return api.Box{Min: p(a, b, c), Max: p(x, y, z)} }

// list is the points of these numbers, three by three.
func list(parts ...int) []api.Point {
	var l []api.Point
	for i := 0; i+2 < len(parts); i += 3 {
		l = append(l, p(parts[i], parts[i+1], parts[i+2]))
	}
	return l
}

func coreOf(t *testing.T, s api.Shape) api.Core {
	t.Helper()
	c, e := shape.Core(s)
	if e != api.OK {
		t.Fatal(s, e)
	}
	return c
}

func alike(c, d api.Core) bool {
	return slices.Equal(c.Points, d.Points) && slices.Equal(c.Axes, d.Axes) && slices.Equal(c.Edges, d.Edges) && c.Radius == d.Radius
}

func placed(t *testing.T, c api.Core, q api.Pose, want api.Core) {
	t.Helper()
	if got, ok := pose.Place(c, q); !ok || !alike(got, want) {
		t.Errorf("Place %v %v: %v %v, not %v", c, q, got, ok, want)
	}
}

func refused(t *testing.T, c api.Core, q api.Pose) {
	t.Helper()
	if got, ok := pose.Place(c, q); ok || !alike(got, api.Core{}) {
		t.Errorf("Place %v %v: %v %v", c, q, got, ok)
	}
}

// points is a core without directions.
func points(parts ...int) api.Core { return api.Core{Points: list(parts...)} }

func withAxes(parts ...int) api.Core { return api.Core{Points: list(0, 0, 0), Axes: list(parts...)} }

func withEdges(parts ...int) api.Core {
	return api.Core{Points: list(0, 0, 0), Edges: list(parts...)}
}

// into are the points with n in one of their parts, and rest in the others.
func into(n, rest int) []api.Point {
	return []api.Point{p(n, rest, rest), p(rest, n, rest), p(rest, rest, n)}
}

func tooGreat() []int {
	return []int{1<<20 + 1, -1<<20 - 1, 1 << 21, 1 << 32, -1 << 32, 1 << 43, 1 << 44, 1 << 61, -1 << 61, 1 << 62, math.MaxInt, math.MinInt, math.MinInt + 1}
}

func TestL1Points(t *testing.T) {
	c := points(3, 5, 7, -3, -5, -7, 0, 0, 0, 0, 0, 0)
	for _, x := range []struct {
		q    api.Pose
		want api.Core
	}{
		{at(0, 0, 0), c},
		{at(2*one, -one, 1), points(8195, -4091, 7, 8189, -4101, -7, 8192, -4096, 0, 8192, -4096, 0)},
		{at(-1, api.Grain-1, -api.Grain), points(2, 5, 6, -4, -5, -8, -1, 0, -1, -1, 0, -1)}, // down
		{at(-api.Grain-1, api.Grain, 1-api.Grain), points(1, 6, 6, -5, -4, -8, -2, 1, -1, -2, 1, -1)},
		{api.Pose{Turn: turn(0, one, 0, 0)}, points(3, -5, -7, -3, 5, 7, 0, 0, 0, 0, 0, 0)},
		{api.Pose{Turn: turn(0, 0, one, 0)}, points(-3, 5, -7, 3, -5, 7, 0, 0, 0, 0, 0, 0)},
		{api.Pose{Turn: turn(0, 0, 0, one)}, points(-3, -5, 7, 3, 5, -7, 0, 0, 0, 0, 0, 0)},
		{api.Pose{Turn: turn(one/2, one/2, one/2, one/2)}, points(7, 3, 5, -7, -3, -5, 0, 0, 0, 0, 0, 0)},
		{api.Pose{Turn: turn(one/2, -one/2, -one/2, -one/2)}, points(5, 7, 3, -5, -7, -3, 0, 0, 0, 0, 0, 0)},
		{api.Pose{At: v(one, 0, -1), Turn: turn(one/2, one/2, one/2, one/2)}, points(4103, 3, 4, 4089, -3, -6, 4096, 0, -1, 4096, 0, -1)}, // turned, then moved
		{api.Pose{Turn: turn(one, 0, 0, one/2)}, points(-4, 5, 7, 3, -6, -7, 0, 0, 0, 0, 0, 0)},                                           // not whole: rows of (1/2 -1 0), (1 1/2 0)
		{api.Pose{At: v(api.Grain/2, -api.Grain/2, 0), Turn: turn(0, 0, 0, one/2)}, points(2, 2, 7, -1, -3, -7, 0, -1, 0, 0, -1, 0)},      // halves of X and Y
		{api.Pose{Turn: turn(0, 0, 0, 0)}, c}, // V3's rows of noughts turn nothing
	} {
		placed(t, c, x.q, x.want)
	}
}

// TestL1PointsDownOnce: what is turned is rounded in FX, and so is what is told in
// grains, both down.
func TestL1PointsDownOnce(t *testing.T) {
	tiny := api.Pose{Turn: turn(one, 0, 0, 1)} // rows (One -2 0), (2 One 0), as 2 / 2^32 is down to 0
	placed(t, points(1, 1, 1, -1, -1, -1, 1<<20, 1<<20, 0, -1<<20, 1<<20, 0), tiny,
		points(0, 1, 1, -1, -2, -1, 1<<20-1, 1<<20, 0, -1<<20-1, 1<<20-1, 0))
	tiny.At = v(512, -512, 0) // 512 is what the farthest ones are turned by
	placed(t, points(1<<20, 1<<20, 0, -1<<20, -1<<20, 0), tiny, points(1<<20, 1<<20, 0, -1<<20, -1<<20-1, 0))
}

func TestL1PointsSize(t *testing.T) {
	for _, n := range []int{1 << 20, -1 << 20, 1<<20 - 1, 1 - 1<<20} {
		for _, rest := range []int{0, 1 << 20, -1 << 20} {
			for _, q := range into(n, rest) {
				c := api.Core{Points: []api.Point{{}, q}}
				placed(t, c, at(0, 0, 0), c)
			}
		}
	}
	for _, n := range tooGreat() {
		for _, q := range into(n, 0) {
			for _, turned := range []api.Quat{turn(one, 0, 0, 0), {}, turn(0, one/2, one/2, 0)} {
				refused(t, api.Core{Points: []api.Point{q}}, api.Pose{Turn: turned})
				refused(t, api.Core{Points: []api.Point{{}, q, {}}}, api.Pose{Turn: turned})
			}
		}
	}
}

func TestL1NoPoint(t *testing.T) {
	refused(t, api.Core{}, at(0, 0, 0))
	refused(t, api.Core{}, api.Pose{})
	refused(t, api.Core{Points: []api.Point{}, Axes: list(1, 0, 0), Edges: list(1, 0, 0), Radius: 5}, at(0, 0, 0))
}

// TestL1Near has what just comes out near, and what just does not.
func TestL1Near(t *testing.T) {
	const far = 1 << 43 // of FX: 2^23 grains
	for _, n := range []int{far, far + api.Grain - 1, far - 1, -far, 1 - far} {
		for _, q := range into(n, 0) {
			placed(t, points(0, 0, 0), at(q.X, q.Y, q.Z), points(q.X>>20, q.Y>>20, q.Z>>20))
		}
	}
	for _, n := range []int{far + api.Grain, far + api.Grain + 1, 2 * far, 1 << 61, api.Most, -far - 1, -far - api.Grain, -2 * far, -api.Most} {
		for _, q := range into(n, 0) {
			refused(t, points(0, 0, 0), at(q.X, q.Y, q.Z))
		}
	}
	for _, q := range into(far-7*api.Grain, 0) { // it hangs on the point, too
		by := p(q.X>>20, q.Y>>20, q.Z>>20)
		placed(t, points(7, 7, 7), at(q.X, q.Y, q.Z), points(by.X+7, by.Y+7, by.Z+7))
		refused(t, points(0, 0, 0, 8, 8, 8, 0, 0, 0), at(q.X, q.Y, q.Z))
		refused(t, points(0, 0, 0, 0, 0, 0, -8, -8, -8), at(-q.X, -q.Y, -q.Z))
	}
}

// TestL1Bad: what chapter 2 has no number for is refused, though the answer's
// points would be near.
func TestL1Bad(t *testing.T) {
	ball := points(0, 0, 0)
	for _, n := range []int{1 << 62, -1 << 62, math.MaxInt, math.MinInt, math.MinInt + 1} {
		for _, q := range into(n, 0) {
			refused(t, ball, at(q.X, q.Y, q.Z))
			refused(t, ball, api.Pose{Turn: turn(0, q.X, q.Y, q.Z)})
			refused(t, ball, api.Pose{Turn: turn(n, q.X, q.Y, q.Z)})
		}
		refused(t, ball, api.Pose{Turn: turn(n, 0, 0, 0)})
	}
	for _, n := range []int{1 << 61, -1 << 61, 1 << 47, -1 << 47} { // twice it, or its square, is great
		for _, q := range into(n, 0) {
			refused(t, ball, api.Pose{Turn: turn(0, q.X, q.Y, q.Z)})
		}
	}
	refused(t, ball, api.Pose{Turn: turn(1<<61, 0, 0, 0)})
	placed(t, ball, api.Pose{Turn: turn(1<<61-1, 0, 0, 0)}, ball)
}

// TestL1BadOfOne: a turn that is just not too great for one may be for another.
func TestL1BadOfOne(t *testing.T) {
	great := api.Pose{Turn: turn(0, 1<<45, 5<<44, 0)} // the row 0: some (-1.56 * 2^61, 0.62 * 2^61, 0)
	placed(t, withAxes(0, 0, 0), great, points(0, 0, 0))
	placed(t, withAxes(0, 0, 1, 0, 1, 0), great, points(0, 0, 0)) // both are too long to be made short
	refused(t, withAxes(0, 0, 1, -1, 1, 0), great)
	refused(t, withAxes(-1, 1, 0, 0, 0, 1), great)
	refused(t, withEdges(1, -1, 0), great)
	both := withAxes(0, 0, 1)
	both.Edges = list(0, 1, 0, -1<<20, 1<<20, 0)
	refused(t, both, great)
	refused(t, points(0, 0, 0, 1<<20, 0, 0), great)
}

func TestL1Directions(t *testing.T) {
	third := api.Pose{Turn: turn(one/2, one/2, one/2, one/2)}
	halved := api.Pose{Turn: turn(0, 0, 0, one/2)} // X and Y become half of what they were
	tiny := api.Pose{Turn: turn(one, 0, 0, 1)}     // by 2^-31
	little := api.Pose{Turn: turn(one, 0, 0, 1<<12)}
	for _, x := range []struct {
		q          api.Pose
		from, want []api.Point
	}{
		{at(0, 0, 0), list(1, 0, 0, 0, 1, 0, 0, 0, 1), list(1, 0, 0, 0, 1, 0, 0, 0, 1)},
		{at(5*one, 7, -9*one), list(6, -4, 0, -2, 0, 0), list(3, -2, 0, -1, 0, 0)},                          // At bears upon no direction
		{at(0, 0, 0), list(0, 0, 2, 0, 0, 1, 0, 0, -1, 0, 0, 2), list(0, 0, 1, 0, 0, 1, 0, 0, -1, 0, 0, 1)}, // nothing but noughts is left out
		{at(0, 0, 0), list(0, 0, 0, 1, 2, 3, 0, 0, 0, 0, 0, 0, 4, 5, 6, 0, 0, 0), list(1, 2, 3, 4, 5, 6)},
		{at(0, 0, 0), list(0, 0, 0), nil},
		{at(0, 0, 0), list(1<<20, 1<<20-1, -1<<20), list(1<<20, 1<<20-1, -1<<20)},
		{third, list(1, 0, 0, 0, 1, 0, 0, 0, 1, 1, 2, -3), list(0, 1, 0, 0, 0, 1, 1, 0, 0, -3, 1, 2)},
		{halved, list(3, -5, 7, 1, 0, 0, 1, 0, 1), list(3, -5, 14, 1, 0, 0, 1, 0, 2)},
		{halved, list(1<<20, 1<<20-1, 0, 3, 1<<20, 0), list(1<<19, 1<<19-1, 0, 1, 1<<19, 0)}, // too long to double
		{halved, list(1<<19, 1<<19-1, 0), list(1<<19, 1<<19-1, 0)},                           // doubled once
		{halved, list(1<<19+1, 1<<19-1, 0), list(1<<18, 1<<18-1, 0)},                         // not doubled
		{halved, list(-1<<19, 3, 0, -1<<19-1, 3, 0), list(-1<<19, 3, 0, -1<<18, 1, 0)},
		{tiny, list(1, 0, 0, 0, 1, 0, 0, 0, 1), list(1, 0, 0, 0, 1, 0, 0, 0, 1)}, // to nought
		{little, list(1, 0, 0, 0, 1, 0, 0, -1, 0), list(1<<19, 1, 0, -1, 1<<19, 0, 1, -1<<19, 0)},
		{little, list(0, 3, 0), list(-1, 3<<18, 0)}, // 3 * 2^18 is turned by 1.5, to nought
	} {
		got := withAxes()
		got.Axes = x.from
		want := withAxes()
		want.Axes = x.want
		placed(t, got, x.q, pose.Moved(want, down(x.q.At)))
		got.Axes, got.Edges, want.Axes, want.Edges = nil, x.from, nil, x.want
		placed(t, got, x.q, pose.Moved(want, down(x.q.At)))
	}
}

// down is a place in grains.
func down(a api.Vec) api.Point { return p(a.X>>20, a.Y>>20, a.Z>>20) }

func TestL1DirectionsSize(t *testing.T) {
	for _, n := range []int{1 << 20, -1 << 20} {
		for _, q := range into(n, 1) {
			c := api.Core{Points: list(0, 0, 0), Axes: []api.Point{q}, Edges: []api.Point{q, q}}
			placed(t, c, at(0, 0, 0), c)
		}
	}
	for _, n := range tooGreat() {
		for _, q := range into(n, 0) {
			for _, turned := range []api.Quat{turn(one, 0, 0, 0), {}, turn(0, one/2, one/2, 0)} {
				c := api.Core{Points: list(0, 0, 0), Axes: []api.Point{p(1, 0, 0), q}, Edges: list(1, 0, 0)}
				refused(t, c, api.Pose{Turn: turned})
				c.Axes, c.Edges = c.Edges, c.Axes
				refused(t, c, api.Pose{Turn: turned})
				refused(t, api.Core{Points: list(0, 0, 0), Edges: []api.Point{q, p(1, 0, 0)}}, api.Pose{Turn: turned})
			}
		}
	}
}

// TestL1DirectionsGone: turns that are not whole may make noughts of a direction,
// or one that is too long to be made short.
func TestL1DirectionsGone(t *testing.T) {
	flat := api.Pose{Turn: turn(0, 0, one/2, one/2)} // rows (0 0 0), (0 1/2 1/2), (0 1/2 1/2)
	c := api.Core{Points: list(4, 0, 0, 0, 4, 6), Axes: list(1, 0, 0, 1, 1, 0, 0, 1, -1), Edges: list(0, 1, -1, 0, 0, 1)}
	placed(t, c, flat, api.Core{Points: list(0, 0, 0, 0, 5, 5), Axes: list(0, 1, 1), Edges: list(0, 1, 1)})

	long := api.Pose{Turn: turn(0, 0, 1<<42, 0)} // X and Z: times 1 - 2^21
	c = withAxes(1, 0, 0, 0, 1, 0, 0, 0, -1)
	placed(t, c, long, withAxes(-1, 0, 0, 0, 1, 0, 0, 0, 1))
	long = api.Pose{Turn: turn(0, 0, 1<<43, 0)} // times 1 - 2^23, and 2^20 times that is above 2^42
	placed(t, c, long, withAxes(0, 1, 0))
}

func TestL1Radius(t *testing.T) {
	for _, n := range []int{0, 1, 5, -5, 1 << 14, 1 << 40, math.MaxInt, math.MinInt} {
		placed(t, api.Core{Points: list(1, 2, 3), Radius: n}, at(one, 0, 0), api.Core{Points: list(4097, 2, 3), Radius: n})
	}
}

// TestL1Many: a core may have as many points and directions as it likes.
func TestL1Many(t *testing.T) {
	var c, want api.Core
	for i := range 5000 {
		c.Points = append(c.Points, p(i, -i, 2*i))
		c.Axes = append(c.Axes, p(1, i, 0))
		c.Edges = append(c.Edges, p(i, 0, 1))
		want.Points = append(want.Points, p(2*i, i, -i))
		want.Axes = append(want.Axes, p(0, 1, i))
		want.Edges = append(want.Edges, p(1, i, 0))
	}
	placed(t, c, api.Pose{Turn: turn(one/2, one/2, one/2, one/2)}, want)
}

func TestL2Moved(t *testing.T) {
	c := api.Core{Points: list(1, 2, 3, -4, 5, -6, 0, 0, 0), Axes: list(1, 0, 0, 7, 0, 0, 0, 0, 0), Edges: list(0, 6, 0, 0, math.MinInt, 0), Radius: -9}
	for _, x := range []struct {
		by   api.Point
		want []api.Point
	}{
		{p(0, 0, 0), c.Points},
		{p(10, -20, 30), list(11, -18, 33, 6, -15, 24, 10, -20, 30)},
		{p(math.MaxInt, math.MinInt, 0), list(math.MinInt, math.MinInt+2, 3, math.MaxInt-4, math.MinInt+5, -6, math.MaxInt, math.MinInt, 0)},
		{p(0, math.MaxInt, math.MinInt), list(1, math.MinInt+1, math.MinInt+3, -4, math.MinInt+4, math.MaxInt-5, 0, math.MaxInt, math.MinInt)},
	} {
		want := c
		want.Points = x.want
		if got := pose.Moved(c, x.by); !alike(got, want) {
			t.Errorf("Moved %v: %v, not %v", x.by, got, want)
		}
	}
	for _, c := range []api.Core{{}, {Radius: 4}, {Axes: list(1, 1, 1)}, {Edges: list(1, 1, 1)}} {
		if got := pose.Moved(c, p(1, 2, 3)); !alike(got, c) {
			t.Errorf("%v, not %v", got, c)
		}
	}
}

func TestL2Span(t *testing.T) {
	for _, x := range []struct {
		points []api.Point
		radius int
		want   api.Box
	}{
		{nil, 0, api.Box{}},
		{nil, 7, api.Box{}},
		{[]api.Point{}, math.MinInt, api.Box{}},
		{list(0, 0, 0), 0, api.Box{}},
		{list(3, -4, 5), 0, box(3, -4, 5, 3, -4, 5)},
		{list(3, -4, 5), 2, box(1, -6, 3, 5, -2, 7)},
		{list(3, -4, 5), -2, box(5, -2, 7, 1, -6, 3)},
		{list(1, 5, 9, 4, 8, 3, 7, 2, 6), 1, box(0, 1, 2, 8, 9, 10)},
		{list(-7, -2, -6, -4, -8, -3, -1, -5, -9), 1, box(-8, -9, -10, 0, -1, -2)},
		{list(5, 5, 5, 6, 6, 6, 4, 4, 4), 0, box(4, 4, 4, 6, 6, 6)},
		{list(math.MaxInt, 0, math.MinInt), 1, box(math.MaxInt-1, -1, math.MaxInt, math.MinInt, 1, math.MinInt+1)},
		{list(math.MinInt, math.MinInt, math.MinInt, math.MaxInt, math.MaxInt, math.MaxInt), 0,
			box(math.MinInt, math.MinInt, math.MinInt, math.MaxInt, math.MaxInt, math.MaxInt)},
	} {
		c := api.Core{Points: x.points, Radius: x.radius, Axes: list(99, 99, 99), Edges: list(-99, -99, -99)}
		if got := pose.Span(c); got != x.want {
			t.Errorf("Span %v: %v, not %v", c, got, x.want)
		}
	}
}

func TestL3Meet(t *testing.T) {
	whole := box(math.MinInt, math.MinInt, math.MinInt, math.MaxInt, math.MaxInt, math.MaxInt)
	for _, x := range []struct {
		a, b api.Box
		want bool
	}{
		{api.Box{}, api.Box{}, true},
		{box(0, 0, 0, 1, 1, 1), box(1, 1, 1, 2, 2, 2), true},
		{box(0, 0, 0, 1, 1, 1), box(2, 1, 1, 3, 2, 2), false},
		{box(0, 0, 0, 1, 1, 1), box(1, 2, 1, 2, 3, 2), false},
		{box(0, 0, 0, 1, 1, 1), box(1, 1, 2, 2, 2, 3), false},
		{box(0, 0, 0, 9, 9, 9), box(3, 3, 3, 4, 4, 4), true}, // one in the other
		{box(0, 4, 4, 9, 5, 5), box(4, 0, 4, 5, 9, 5), true}, // a cross: no corner is in the other
		{box(0, 4, 4, 9, 5, 5), box(4, 0, 6, 5, 9, 7), false},
		{whole, api.Box{}, true},
		{whole, whole, true},
		{box(math.MaxInt, 0, 0, math.MaxInt, 0, 0), box(math.MinInt, 0, 0, math.MinInt, 0, 0), false},
		{box(5, 0, 0, 3, 0, 0), box(4, 0, 0, 4, 0, 0), false}, // its Min is above its Max
		{box(5, 0, 0, 3, 0, 0), box(3, 0, 0, 5, 0, 0), true},
		{box(5, 0, 0, 3, 0, 0), box(5, 0, 0, 3, 0, 0), false},
	} {
		if pose.Meet(x.a, x.b) != x.want || pose.Meet(x.b, x.a) != x.want {
			t.Errorf("Meet %v %v: not %v", x.a, x.b, x.want)
		}
	}
}

func TestL3Grown(t *testing.T) {
	for _, x := range []struct {
		a    api.Box
		by   int
		want api.Box
	}{
		{box(1, 2, 3, 4, 5, 6), 0, box(1, 2, 3, 4, 5, 6)},
		{box(1, 2, 3, 4, 5, 6), 10, box(-9, -8, -7, 14, 15, 16)},
		{box(1, 2, 3, 4, 5, 6), -2, box(3, 4, 5, 2, 3, 4)},
		{box(math.MinInt, 0, 1, math.MaxInt, 0, -1), 1, box(math.MaxInt, -1, 0, math.MinInt, 1, 0)},
		{api.Box{}, math.MinInt, box(math.MinInt, math.MinInt, math.MinInt, math.MinInt, math.MinInt, math.MinInt)},
		{api.Box{}, math.MaxInt, box(-math.MaxInt, -math.MaxInt, -math.MaxInt, math.MaxInt, math.MaxInt, math.MaxInt)},
	} {
		if got := pose.Grown(x.a, x.by); got != x.want {
			t.Errorf("Grown %v %d: %v, not %v", x.a, x.by, got, x.want)
		}
	}
}

func TestL3Join(t *testing.T) {
	for _, x := range []struct{ a, b, want api.Box }{
		{box(1, 2, 3, 4, 5, 6), box(1, 2, 3, 4, 5, 6), box(1, 2, 3, 4, 5, 6)},
		{box(1, 2, 3, 4, 5, 6), box(0, 3, 2, 5, 4, 7), box(0, 2, 2, 5, 5, 7)},
		{box(1, 2, 3, 4, 5, 6), box(2, 1, 4, 3, 6, 5), box(1, 1, 3, 4, 6, 6)},
		{box(1, 2, 3, 4, 5, 6), api.Box{}, box(0, 0, 0, 4, 5, 6)}, // an empty box is one, too
		{box(5, 5, 5, 3, 3, 3), box(4, 6, 5, 4, 2, 3), box(4, 5, 5, 4, 3, 3)},
		{box(math.MinInt, 0, 0, 0, math.MaxInt, 0), box(0, math.MinInt, 0, 0, 0, math.MaxInt),
			box(math.MinInt, math.MinInt, 0, 0, math.MaxInt, math.MaxInt)},
	} {
		if pose.Join(x.a, x.b) != x.want || pose.Join(x.b, x.a) != x.want {
			t.Errorf("Join %v %v: %v, not %v", x.a, x.b, pose.Join(x.a, x.b), x.want)
		}
	}
}

// grown is a list with all its spare room written over, and more behind it.
func grown(l []api.Point) []api.Point {
	l = l[:cap(l)]
	for i := range l {
		l[i] = p(-7, -7, -7)
	}
	return append(l, p(-8, -8, -8))
}

// roomy is a core whose lists stand one behind another in one room, with something
// behind the last one.
func roomy() (api.Core, []api.Point) {
	room := list(1, 2, 3, 4, 5, 6, 7, 8, 9, 1, 0, 0, 0, 1, 0, 0, 0, 1, 77, 77, 77)
	return api.Core{Points: room[:3], Axes: room[3:5], Edges: room[5:6], Radius: 4}, room
}

// answers are what the calls that answer cores make of one.
func answers(c api.Core) map[string]api.Core {
	q, _ := pose.Place(c, at(one, 0, -one))
	return map[string]api.Core{"Place": q, "Moved": pose.Moved(c, p(4096, 0, -4096)), "Moved by nothing": pose.Moved(c, api.Point{})}
}

// TestNewMemory: whoever writes into an answer, or grows it, changes no other
// list, nor what was handed in.
func TestNewMemory(t *testing.T) {
	fresh, asWas := roomy()
	wants := answers(fresh)
	for name, want := range wants {
		for i := range 3 {
			c, room := roomy()
			got, other := answers(c)[name], answers(c)[name]
			lists := []*[]api.Point{&got.Points, &got.Axes, &got.Edges}
			*lists[i] = grown(*lists[i])
			for j, l := range [][]api.Point{want.Points, want.Axes, want.Edges} {
				if j != i && !slices.Equal(*lists[j], l) {
					t.Errorf("%s: list %d changed with %d", name, j, i)
				}
			}
			if !reflect.DeepEqual(other, want) || !slices.Equal(room, asWas) {
				t.Errorf("%s: list %d: %v, not %v; %v", name, i, other, want, room)
			}
		}
	}
}

// TestHandedIn: nothing is written into a core, nor behind its lists, nor is it
// kept.
func TestHandedIn(t *testing.T) {
	c, room := roomy()
	_, asWas := roomy()
	wants := answers(c)
	got := answers(c)
	pose.Span(c)
	pose.Place(c, at(1<<50, 0, 0))
	pose.Place(c, api.Pose{Turn: turn(one/2, one/2, one/2, one/2)})
	if !slices.Equal(room, asWas) {
		t.Error(room)
	}
	fresh, _ := roomy()
	clear(room)
	if want := answers(fresh); !reflect.DeepEqual(got, want) || !reflect.DeepEqual(wants, want) {
		t.Errorf("%v, not %v", got, want)
	}
}

func TestExamples(t *testing.T) {
	ball := coreOf(t, api.Shape{Kind: api.Ball, Radius: 5})
	there := api.Core{Points: list(4096, 0, -1), Radius: 5}
	placed(t, ball, at(one, 0, -1), there)
	placed(t, ball, api.Pose{At: v(one, 0, -1)}, there)
	if got := pose.Span(there); got != box(4091, -5, -6, 4101, 5, 4) {
		t.Error(got)
	}
	if !pose.Meet(box(0, 0, 0, 1, 1, 1), box(1, 1, 1, 2, 2, 2)) {
		t.Error("they meet")
	}
}
