package contact_test

import (
	"math"
	"slices"
	"testing"

	"tumbler/api"
	"tumbler/contact"
	"tumbler/narrow"
	"tumbler/pose"
	"tumbler/shape"
)

const long = 1 << 20

func p(x, y, z int) api.Point { return api.Point{X: x, Y: y, Z: z} }

// list is the points of these numbers, three by three.
func list(parts ...int) []api.Point {
	var l []api.Point
	for i := 0; i+2 < len(parts); i += 3 {
		l = append(l, p(parts[i], parts[i+1], parts[i+2]))
	}
	return l
}

// points is a core without directions.
func points(parts ...int) api.Core { return api.Core{Points: list(parts...)} }

func ball(radius, x, y, z int) api.Core {
	return api.Core{Points: list(x, y, z), Radius: radius}
}

func spot(depth, id, x, y, z int) api.Spot {
	return api.Spot{At: p(x, y, z), Depth: depth, ID: id}
}

func coreOf(t *testing.T, s api.Shape) api.Core {
	t.Helper()
	c, e := shape.Core(s)
	if e != api.OK {
		t.Fatal(s, e)
	}
	return c
}

func brick(t *testing.T, radius, x, y, z int) api.Core {
	t.Helper()
	return coreOf(t, api.Shape{Kind: api.Brick, Radius: radius, Half: p(x, y, z)})
}

func moved(c api.Core, x, y, z int) api.Core { return pose.Moved(c, p(x, y, z)) }

// along is what is told by a direction, with a Gap of nought.
func along(x, y, z int) api.Apart { return api.Apart{Axis: p(x, y, z)} }

func apart(t *testing.T, a, b api.Core) api.Apart {
	t.Helper()
	x, ok := narrow.Apart(a, b)
	if !ok {
		t.Fatal(a, b)
	}
	return x
}

func touches(t *testing.T, a, b api.Core, x api.Apart, within int, spots ...api.Spot) {
	t.Helper()
	got, ok := contact.Touch(a, b, x, within)
	if !ok || got.Axis != x.Axis || !slices.Equal(got.Spots, spots) {
		t.Errorf("Touch %v %v %v %d: %v %v, not %v", a, b, x, within, got, ok, spots)
	}
}

// ids holds the spots' IDs alone.
func ids(t *testing.T, a, b api.Core, x api.Apart, within int, want ...int) {
	t.Helper()
	patch, ok := contact.Touch(a, b, x, within)
	var got []int
	for _, s := range patch.Spots {
		got = append(got, s.ID)
	}
	if !ok || !slices.Equal(got, want) {
		t.Errorf("Touch %v %v %v %d: %v %v, not of %v", a, b, x, within, patch, ok, want)
	}
}

func refused(t *testing.T, a, b api.Core, x api.Apart, within int) {
	t.Helper()
	if got, ok := contact.Touch(a, b, x, within); ok || got.Axis != (api.Point{}) || len(got.Spots) != 0 {
		t.Errorf("Touch %v %v %v %d: %v %v", a, b, x, within, got, ok)
	}
}

// into are the points with n in one of their parts, and rest in the others.
func into(n, rest int) []api.Point {
	return []api.Point{p(n, rest, rest), p(rest, n, rest), p(rest, rest, n)}
}

// beyond are numbers of a size above most.
func beyond(most int) []int {
	return []int{most + 1, -most - 1, 2 * most, 1 << 32, -1 << 32, 1 << 61, -1 << 61, 1 << 62, -1 << 62, math.MaxInt, math.MinInt, math.MinInt + 1}
}

// odd are cores of which something is wrong, one thing each.
func odd() []api.Core {
	l := []api.Core{
		{}, {Points: []api.Point{}, Axes: list(1, 0, 0), Edges: list(1, 0, 0), Radius: 1},
		{Points: make([]api.Point, 33)}, {Points: make([]api.Point, 1000)},
		{Points: make([]api.Point, 1), Axes: make([]api.Point, 129)},
		{Points: make([]api.Point, 1), Edges: make([]api.Point, 129)},
	}
	for _, n := range append(beyond(1<<16), -1, -2, -1<<16) {
		l = append(l, ball(n, 0, 0, 0))
	}
	for _, n := range beyond(1 << 24) {
		for _, q := range into(n, 0) {
			l = append(l, api.Core{Points: []api.Point{q}}, api.Core{Points: []api.Point{{}, {}, q}})
		}
	}
	for _, n := range beyond(1 << 20) {
		for _, q := range into(n, 0) {
			l = append(l, api.Core{Points: list(0, 0, 0), Axes: []api.Point{q}}, api.Core{Points: list(0, 0, 0), Edges: []api.Point{q}},
				api.Core{Points: list(0, 0, 0), Axes: []api.Point{{}, {X: 1}, q}}, api.Core{Points: list(0, 0, 0), Edges: []api.Point{{}, {X: 1}, q}})
		}
	}
	return l
}

func TestT1MayNotBe(t *testing.T) {
	good, x := brick(t, 1, 2, 3, 4), along(long, 0, 0)
	for _, c := range odd() {
		refused(t, c, good, x, math.MaxInt)
		refused(t, good, c, x, math.MaxInt)
		refused(t, c, c, x, math.MaxInt)
		refused(t, ball(1, 0, 0, 0), c, x, math.MaxInt)
	}
}

// filled is a list of so many points, with q the last one.
func filled(many int, q api.Point) []api.Point { return append(make([]api.Point, many-1), q) }

// TestT1MayBe has cores with as much of all as they may have.
func TestT1MayBe(t *testing.T) {
	const far = 1 << 24
	touches(t, points(far, 0, 0), points(-far, 0, 0), along(long, 0, 0), 0, spot(2*far, 256, -far, 0, 0))
	touches(t, points(-far, 0, 0), points(far, 0, 0), along(1, 0, 0), 2*far, spot(-2*far, 256, far, 0, 0))
	touches(t, ball(1<<16, 0, 0, 0), ball(1<<16, 0, 0, 0), along(0, 0, -long), 0, spot(1<<17, 256, 0, 0, 1<<16))
	for _, n := range []int{far, -far} {
		for _, q := range into(n, 0) {
			x := api.Apart{Axis: p(q.X/16, q.Y/16, q.Z/16)}
			across := p(q.Z, q.X, q.Y)
			touches(t, api.Core{Points: filled(32, q)}, api.Core{Points: []api.Point{{}, across}}, x, 0, api.Spot{At: q, Depth: far, ID: 31})
			touches(t, api.Core{Points: []api.Point{{}, q}}, api.Core{Points: filled(32, p(-q.X, -q.Y, -q.Z))}, x, 0,
				api.Spot{At: p(-q.X, -q.Y, -q.Z), Depth: 2 * far, ID: 256 + 31})
		}
	}
	for _, n := range []int{long, -long} {
		for _, q := range into(n, 0) {
			full := api.Core{Points: list(0, 0, 0), Axes: filled(128, q), Edges: filled(128, q)}
			touches(t, full, full, along(long, 0, 0), 0, spot(0, 256, 0, 0, 0))
		}
	}
}

func TestT1Axis(t *testing.T) {
	a, b := ball(3, 0, 0, 0), ball(3, 4, 0, 0)
	refused(t, a, b, along(0, 0, 0), 0)
	refused(t, a, b, along(0, 0, 0), math.MaxInt)
	for _, n := range append(beyond(long), 1<<24, -1<<24) {
		for _, rest := range []int{0, 1, -long} {
			for _, q := range into(n, rest) {
				refused(t, a, b, api.Apart{Axis: q}, math.MaxInt)
			}
		}
	}
	for _, n := range []int{1, 2, long - 1, long} {
		touches(t, a, b, along(n, 0, 0), 0, spot(2, 256, 1, 0, 0))
	}
	touches(t, b, a, along(-long, 0, 0), 0, spot(2, 256, 3, 0, 0))
	touches(t, moved(a, 0, 4, 0), a, along(0, -long, 0), 0, spot(2, 256, 0, 3, 0))
	touches(t, a, moved(a, 0, 0, 4), along(0, 0, long), 0, spot(2, 256, 0, 0, 1))
}

func TestT1Gap(t *testing.T) {
	a, b := ball(3, 0, 0, 0), ball(3, 4, 0, 0)
	deep := spot(2, 256, 1, 0, 0)
	for _, x := range []struct {
		gap, within int
		is          bool
	}{
		{0, 0, true}, {1, 0, false}, {1, 1, true}, {-1, -1, true}, {-1, -2, false}, {-2, -2, true}, {-5, -2, true},
		{5, 4, false}, {5, 5, true}, {5, 6, true}, {-99, -3, false}, // nothing is so deep
		{math.MaxInt, math.MaxInt, true}, {math.MaxInt, math.MaxInt - 1, false},
		{math.MinInt, 0, true}, {math.MinInt, -2, true}, {math.MinInt, -3, false}, {math.MinInt, math.MinInt, false}, {math.MinInt, math.MinInt + 1, false},
		{math.MinInt + 1, math.MinInt, false}, {0, math.MaxInt, true}, {0, math.MinInt, false}, {math.MinInt, math.MaxInt, true},
	} {
		told := api.Apart{Axis: p(long, 0, 0), Gap: x.gap}
		if x.is {
			touches(t, a, b, told, x.within, deep)
		} else {
			refused(t, a, b, told, x.within)
		}
	}
}

// TestT1Within: what is told of the Gap bears upon no Depth; each spot is held against
// within by itself.
func TestT1Within(t *testing.T) {
	a := points(0, 0, 0, 1, -1, 0, 2, -2, 0, 3, -3, 0)
	b := points(0, 2, 0, 90, 2, 0)
	x := along(0, long, 0)
	refused(t, a, b, x, 1)
	refused(t, a, b, x, 0)
	touches(t, a, b, x, 2, spot(-2, 0, 0, 0, 0))
	ids(t, a, b, x, 3, 0, 1)
	ids(t, a, b, x, 4, 0, 1, 2)
	ids(t, a, b, x, 5, 0, 1, 2, 3)
	x.Gap = -9
	b = moved(b, 0, -4, 0)
	refused(t, a, b, x, -3)
	touches(t, a, b, x, -2, spot(2, 0, 0, 0, 0))
	touches(t, a, b, x, -1, spot(2, 0, 0, 0, 0), spot(1, 1, 1, -1, 0))
	ids(t, a, b, x, 0, 0, 1, 2)
}

// TestT1Front: points are of a front, if they are no more than 8 upper sizes behind.
func TestT1Front(t *testing.T) {
	wide := points(-900, 0, 0, 900, 0, 0) // more spread than what it is held against
	narrower := points(0, 0, 0, 0, -8, 0, 1, -9, 0, 0, -8, 1)
	x := along(0, long, 0)
	ids(t, narrower, wide, x, 99, 0, 1, 3)
	ids(t, wide, moved(points(0, 0, 0, 0, 8, 0, 1, 9, 0, 0, 8, 1), 0, 5, 0), x, 99, 256, 257, 259)
	// (1 1 0) is 1.4 long: up 2, so that 16 is the last one
	x = along(1, 1, 0)
	wide = points(-900, 900, 0, 900, -900, 0)
	ids(t, points(-17, 0, 0, 0, 0, 0, -16, 0, 0, -8, -8, 0, -8, -9, 0), wide, x, 99, 1, 2, 3)
	ids(t, wide, points(17, 0, 0, 0, 0, 0, 16, 0, 0, 8, 8, 0, 8, 9, 0), x, 99, 257, 258, 259)
	// (2^20 2^20 0): up 1482911, times 8 by 2^20 is 11.3
	x = along(long, long, 0)
	ids(t, points(-11, 0, 0, 0, 0, 0, -12, 0, 0, -6, -5, 0), wide, x, 99, 0, 1, 3)
}

// TestT1FrontUp: 8 of the upper size have a point that 8 of the lower one leave out.
func TestT1FrontUp(t *testing.T) {
	n := p(2, 2, 1<<20) // down 2^20, up 2^20 and 1
	a := points(0, 0, 0, -4, 0, -8)
	wide := points(-900, 900, 0, 900, -900, 0)
	ids(t, a, wide, api.Apart{Axis: n}, 99, 0, 1)                            // 8 * 2^20 and 8 behind: the last one
	ids(t, points(0, 0, 0, -4, -1, -8), wide, api.Apart{Axis: n}, 99, 0)     // 2 more
	ids(t, wide, points(0, 0, 0, 4, 0, 8), api.Apart{Axis: n}, 99, 256, 257) // and so of b
	ids(t, wide, points(0, 0, 0, 4, 1, 8), api.Apart{Axis: n}, 99, 256)
}

// TestT1Owner: a owns, if its front is less spread; of the same b does.
func TestT1Owner(t *testing.T) {
	x := along(0, long, 0)
	for _, c := range []struct {
		a, b api.Core
		ids  []int
	}{
		{points(0, 0, 0), points(0, 0, 0), []int{256}},
		{points(0, 0, 0), points(0, 0, 0, 1, 0, 0), []int{0}},
		{points(0, 0, 0, 0, 0, -1), points(0, 0, 0, 1, 0, 0), []int{256, 257}},
		{points(0, 0, 0, 0, 0, -1), points(0, 0, 0, 2, 0, 0), []int{0, 1}},
		{points(0, 0, 0, 0, 0, 3), points(0, 0, 0, 2, 0, 0), []int{256, 257}},
		{points(0, 0, 0, 1, 0, 0, 0, 0, 1), points(0, 0, 0, 2, 0, 0), []int{256, 257}}, // 1 and 1 is as much as 2
		{points(0, 0, 0, 1, 0, 0, 0, 0, 1), points(0, 0, 0, 1, 1, 1), []int{0, 1, 2}},  // 2 and 3
		{points(0, 0, 0, 1, -1, 1), points(0, 0, 0, 1, 0, 1), []int{256, 257}},         // 3 and 2
		{points(0, 0, 0, 1, -1, 1), points(0, 0, 0, 2, 0, -2), []int{0, 1}},            // 3 and 4
		{points(0, 0, 0, 900, -9, 0), points(0, 0, 0, 1, 0, 0), []int{0}},              // what is behind the front is not asked
		{points(0, 0, 0, 2, 0, 0), points(0, 0, 0, 900, 9, 900, 0, 0, 1), []int{256, 258}},
		{points(5, 0, 5, 6, 0, 6), points(-5, 0, -5, -3, 0, -5, -4, 0, -5), []int{256, 257, 258}},
		{points(-7, 0, -7, -6, 0, -7), points(-5, 0, -5, -3, 0, -5, -4, 0, -5), []int{0, 1}},
	} {
		ids(t, c.a, c.b, x, 9, c.ids...)
	}
	few, many := brick(t, 900, 2, 9, 2), brick(t, 0, 3, 9, 3) // a radius bears upon nothing
	ids(t, few, many, x, 0, 2, 3, 6, 7)
	ids(t, many, few, x, 0, 256, 257, 260, 261)
}

// tilted is what both depths are told of: (2^20 2^20 0) is 1482910.4 long.
func tilted(at int) (a, b api.Core) {
	return points(0, 0, 0, 1, -1, 0), points(at, 0, 0, at+900, -900, 0)
}

// TestT1Depth: by the lower size, down, and both radii.
func TestT1Depth(t *testing.T) {
	for _, x := range []struct{ at, depth int }{
		{0, 0}, {1, -1}, {2, -2}, {3, -3}, {10, -8}, {-1, 0}, {-2, 1}, {-3, 2}, {-10, 7}, {-99, 70},
		{-1393, 985}, {1393, -986}, // 984.9998 by the length, but a little more than 985 by the lower size
		{-3363, 2378}, {3363, -2379}, // 2378.0001
	} {
		a, b := tilted(x.at)
		touches(t, a, b, along(long, long, 0), 1<<20, spot(x.depth, 0, 0, 0, 0), spot(x.depth, 1, 1, -1, 0))
		touches(t, b, a, along(-long, -long, 0), 1<<20, spot(x.depth, 256, 0, 0, 0), spot(x.depth, 257, 1, -1, 0))
		patch, ok := contact.Touch(api.Core{Points: a.Points, Radius: 30}, api.Core{Points: b.Points, Radius: 4}, along(long, long, 0), 1<<20)
		if !ok || patch.Spots[0].Depth != x.depth+34 || patch.Spots[1].Depth != x.depth+34 {
			t.Error(x, patch)
		}
	}
	// (1 1 0) is 1.4 long: its lower size is 1, and each depth is as great as if it were that
	touches(t, points(7, 0, 0), points(0, 0, 0, 9, -9, 0), along(1, 1, 0), 0, spot(7, 0, 7, 0, 0))
	touches(t, points(-7, 0, 0), points(0, 0, 0), along(1, 1, 0), 7, spot(-7, 256, 0, 0, 0))
}

// TestT1DepthOfEach: each of the owner's points has a depth of its own, against the
// foremost one of the other.
func TestT1DepthOfEach(t *testing.T) {
	a := points(1, 3, 0, 2, 1, 0, 3, 2, 0)
	b := points(0, 0, 0, 50, -5, 0, -50, 9, 0)
	touches(t, a, b, along(0, long, 0), 0, spot(8, 0, 1, 3, 0), spot(6, 1, 2, 1, 0), spot(7, 2, 3, 2, 0))
	touches(t, b, a, along(0, -long, 0), 0, spot(8, 256, 1, 3, 0), spot(6, 257, 2, 1, 0), spot(7, 258, 3, 2, 0))
}

// TestT1At: a's radius ahead, b's back, each part to nought.
func TestT1At(t *testing.T) {
	for _, x := range []struct {
		n        api.Point
		radius   int
		fromA    api.Point
		fromBack api.Point // of b, the other way round
	}{
		{p(long, 0, 0), 7, p(7, 0, 0), p(-7, 0, 0)},
		{p(0, -long, 0), 7, p(0, -7, 0), p(0, 7, 0)},
		{p(long, long, 0), 10, p(7, 7, 0), p(-7, -7, 0)},      // 7.07
		{p(-long, long, 0), 99, p(-70, 70, 0), p(70, -70, 0)}, // 70.004
		{p(3, 4, 0), 9, p(5, 7, 0), p(-5, -7, 0)},             // 5.4, 7.2
		{p(-3, 0, 4), 9, p(-5, 0, 7), p(5, 0, -7)},
		{p(0, 3, -4), 2, p(0, 1, -1), p(0, -1, 1)},        // 1.2, 1.6
		{p(1, 1, 1), 10, p(10, 10, 10), p(-10, -10, -10)}, // its lower size is 1
		{p(1, 1, -2), 9, p(4, 4, -9), p(-4, -4, 9)},       // 2.4: 2
		{p(1, 2, 3), 0, p(0, 0, 0), p(0, 0, 0)},
		{p(long, 1, -1), 1 << 16, p(1<<16, 0, 0), p(-1<<16, 0, 0)},
		{p(long, 16, -17), 1 << 16, p(1<<16, 1, -1), p(-1<<16, -1, 1)},
	} {
		across := p(-x.n.Y, x.n.X, 0)
		wide := api.Core{Points: []api.Point{across, {}}}
		for _, at := range []api.Point{{}, p(5, -6, 7), p(-1<<23, 1<<23, 0)} {
			a := pose.Moved(ball(x.radius, 0, 0, 0), at)
			told := api.Apart{Axis: x.n, Gap: math.MinInt}
			first, ok := contact.Touch(a, pose.Moved(wide, at), told, math.MaxInt)
			if want := p(at.X+x.fromA.X, at.Y+x.fromA.Y, at.Z+x.fromA.Z); !ok || first.Spots[0].At != want || first.Spots[0].ID != 0 {
				t.Error(x, first, want)
			}
			second, ok := contact.Touch(pose.Moved(wide, at), a, told, math.MaxInt)
			if want := p(at.X+x.fromBack.X, at.Y+x.fromBack.Y, at.Z+x.fromBack.Z); !ok || second.Spots[0].At != want || second.Spots[0].ID != 256 {
				t.Error(x, second, want)
			}
		}
	}
}

// TestT1AtOwn: the other one's radius bears upon the depth alone.
func TestT1AtOwn(t *testing.T) {
	a, wide := points(1, 2, 3), points(-90, 2, 0, 90, 2, 0)
	wide.Radius = 50
	touches(t, a, wide, along(0, long, 0), 0, spot(50, 0, 1, 2, 3))
	touches(t, wide, a, along(0, long, 0), 0, spot(50, 256, 1, 2, 3))
	a.Radius, wide.Radius = 3, 0
	touches(t, a, wide, along(0, long, 0), 0, spot(3, 0, 1, 5, 3))
	touches(t, wide, a, along(0, long, 0), 0, spot(3, 256, 1, -1, 3))
}

// plate is more spread than whatever lies on it.
func plate() api.Core { return points(-9000, 0, 0, 9000, 0, 0) }

func TestT1Four(t *testing.T) {
	x := along(0, long, 0)
	for _, c := range []struct {
		parts []int
		ids   []int
	}{
		{[]int{0, 0, 0, 1, 0, 0, 2, 0, 0, 3, 0, 0}, []int{0, 1, 2, 3}},
		{[]int{0, 0, 0, 1, 0, 0, 2, 0, 0, 3, 0, 0, 4, 0, 0, 2, 0, 9}, []int{0, 1, 4, 5}},
		{[]int{0, 0, 0, 0, 0, 0, 0, 0, 0, 0, 0, 0, 0, 0, 0}, []int{0, 1, 2, 3}},     // all in one place: the first ones
		{[]int{0, -1, 0, 0, -1, 0, 0, -1, 0, 0, -1, 0, 0, 0, 0}, []int{0, 1, 2, 4}}, // the deepest, and the first ones
		{[]int{0, 0, 0, 5, 0, 0, -5, 0, 0, 0, 0, 4, 1, 0, 1}, []int{0, 1, 2, 3}},
		{[]int{0, -1, 0, 5, -1, 0, -5, 0, 0, 0, 0, 5, 1, 0, 1}, []int{0, 1, 2, 3}}, // of two that are the deepest the first one
		{[]int{1, 0, 1, 0, 0, 5, -5, 0, 0, 5, 0, 0, 0, 0, 0}, []int{0, 1, 2, 3}},
		{[]int{0, 0, 0, 9, 0, 0, 9, 0, 0, 1, 0, 0, 2, 0, 0, 3, 0, 0}, []int{0, 1, 2, 3}}, // behind 0, 1 and 2 is the one at 1 at 1 and 64 and 64
		{[]int{9, 0, 0, 9, 0, 0, 8, 0, 0, 7, 0, 0, 0, 0, 0}, []int{0, 1, 2, 4}},
		{[]int{9, 0, 0, 8, 0, 0, 9, 0, 0, 7, 0, 0, 0, 0, 0}, []int{0, 1, 2, 4}},
		{[]int{9, 0, 0, 7, 0, 0, 8, 0, 0, 9, 0, 0, 0, 0, 0}, []int{0, 2, 3, 4}},
		{[]int{0, 0, 0, 3, 0, 4, 5, 0, 0, 4, 0, 3, 0, 0, 5, 1, 0, 1}, []int{0, 1, 2, 4}}, // of the same squares the first one: 3 4 and 5 0
	} {
		a := points(c.parts...)
		ids(t, a, plate(), x, 99, c.ids...)
		var turned []int
		for _, i := range c.ids {
			turned = append(turned, 256+i)
		}
		ids(t, plate(), a, along(0, -long, 0), 99, turned...)
	}
}

// TestT1FourParts: all three parts make a distance.
func TestT1FourParts(t *testing.T) {
	for _, c := range []struct{ n, far api.Point }{
		{p(0, 1, 0), p(7, 0, 0)}, {p(0, 1, 0), p(0, 0, 7)}, {p(1, 0, 0), p(0, 7, 0)}, {p(1, 0, 0), p(0, -7, 0)}, {p(0, 0, 1), p(-7, 0, 0)},
	} {
		a := api.Core{Points: append(list(0, 0, 0, 0, 0, 0, 0, 0, 0, 0, 0, 0, 0, 0, 0), c.far)}
		b := points(-9000, 0, 0, 9000, 0, 0)
		if c.n.X != 0 {
			b = points(0, 0, -9000, 0, 0, 9000)
		}
		if c.n.Z != 0 {
			b = points(0, -9000, 0, 0, 9000, 0)
		}
		ids(t, a, b, api.Apart{Axis: c.n}, 0, 0, 1, 2, 5)
	}
}

// TestT1FourDeepest: the deepest one stays, wherever it is, and the others are counted
// from it; what is not deep enough is left out ahead of the choice.
func TestT1FourDeepest(t *testing.T) {
	a := points(-9, -1, -9, 9, -1, -9, 9, -1, 9, -9, -1, 9, 1, 0, 0)
	x := along(0, long, 0)
	ids(t, a, plate(), x, 99, 0, 2, 3, 4) // from (1 0 0) first (-9 -1 -9), then (9 -1 9), then (-9 -1 9)
	ids(t, a, plate(), x, 0, 4)
	six := points(-9, -1, -9, 9, -2, -9, 9, -1, 9, -9, -2, 9, 1, 0, 0, 2, -1, 0, 3, -1, 0)
	ids(t, six, plate(), x, 99, 0, 1, 3, 4) // first (-9 -2 9), which is a little further down, then (9 -2 -9), then (-9 -1 -9)
	ids(t, six, plate(), x, 1, 0, 2, 4, 6)  // 1 and 3 are left out: 6 is 81 and 36 from 2, and 144 and 81 from 0
}

// roomy is a core whose lists stand one behind another in one room, with something
// behind the last one.
func roomy() (api.Core, []api.Point) {
	room := list(1, 2, 3, 4, 2, 6, 2, 0, 0, 0, 4, 0, 0, 0, 6, 77, 77, 77)
	return api.Core{Points: room[:2], Axes: room[2:4], Edges: room[4:5], Radius: 4}, room
}

// TestHandedIn: nothing is written into what is handed in, nor behind it, nor is it
// kept.
func TestHandedIn(t *testing.T) {
	a, room := roomy()
	b, other := roomy()
	was := slices.Clone(room)
	first, ok := contact.Touch(a, b, along(0, long, 0), 0)
	kept := slices.Clone(first.Spots)
	if !ok || !slices.Equal(room, was) || !slices.Equal(other, was) {
		t.Error(room, other)
	}
	clear(room)
	clear(other)
	if !slices.Equal(first.Spots, kept) {
		t.Error(first, kept)
	}
}

// TestNewMemory: what comes out may be written into and grown, and no other answer is
// changed.
func TestNewMemory(t *testing.T) {
	for _, a := range []api.Core{ball(2, 0, 0, 0), brick(t, 0, 2, 2, 2), points(0, 0, 0, 1, 0, 0, 2, 0, 0, 3, 0, 0, 4, 0, 0, 5, 0, 0)} {
		first, _ := contact.Touch(a, plate(), along(0, long, 0), 99)
		second, _ := contact.Touch(a, plate(), along(0, long, 0), 99)
		was := slices.Clone(second.Spots)
		if len(was) == 0 {
			t.Fatal(a)
		}
		for i := range first.Spots[:cap(first.Spots)] {
			first.Spots[:cap(first.Spots)][i] = spot(7, 7, 7, 7, 7)
		}
		third, _ := contact.Touch(a, plate(), along(0, long, 0), 99)
		if !slices.Equal(second.Spots, was) || !slices.Equal(third.Spots, was) {
			t.Error(a, second, third, was)
		}
	}
}

func TestExamples(t *testing.T) {
	a, b := moved(brick(t, 0, 2, 2, 2), 0, 3, 0), brick(t, 0, 9, 1, 9)
	x := apart(t, a, b)
	if x != along(0, -long, 0) {
		t.Error(x)
	}
	touches(t, a, b, x, 0, spot(0, 0, -2, 1, -2), spot(0, 1, -2, 1, 2), spot(0, 4, 2, 1, -2), spot(0, 5, 2, 1, 2))
	one, two := ball(3, 0, 0, 0), ball(3, 4, 0, 0)
	touches(t, one, two, apart(t, one, two), 0, spot(2, 256, 1, 0, 0))
}
