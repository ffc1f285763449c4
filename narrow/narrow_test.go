package narrow_test

import (
	"math"
	"slices"
	"testing"

	"tumbler/api"
	"tumbler/narrow"
	"tumbler/pose"
	"tumbler/shape"
)

const long = 1 << 20

func p(x, y, z int) api.Point { return api.Point{X: x, Y: y, Z: z} }

// list is the points of these numbers, three by three.
func list(parts ...int) []api.Point {
	var l []api.Point
	for i := 0; i+2 < len(parts); i += 3 {
		l = append(l, p(parts[i], parts[i+1], parts[i+2]))
	}
	return l
}

// points is a core without directions.
func points(parts ...int) api.Core { return api.Core{Points: list(parts...)} }

func ball(radius, x, y, z int) api.Core {
	return api.Core{Points: list(x, y, z), Radius: radius}
}

func coreOf(t *testing.T, s api.Shape) api.Core {
	t.Helper()
	c, e := shape.Core(s)
	if e != api.OK {
		t.Fatal(s, e)
	}
	return c
}

func brick(t *testing.T, radius, x, y, z int) api.Core {
	t.Helper()
	return coreOf(t, api.Shape{Kind: api.Brick, Radius: radius, Half: p(x, y, z)})
}

func capsule(t *testing.T, radius, x int) api.Core {
	t.Helper()
	return coreOf(t, api.Shape{Kind: api.Capsule, Radius: radius, Half: p(x, 0, 0)})
}

func moved(c api.Core, x, y, z int) api.Core { return pose.Moved(c, p(x, y, z)) }

func sizes(t *testing.T, n api.Point, low, up int) {
	t.Helper()
	if a, b := narrow.Sizes(n); a != low || b != up {
		t.Errorf("Sizes %v: %d %d, not %d %d", n, a, b, low, up)
	}
}

func reaches(t *testing.T, c api.Core, n api.Point, low, high int) {
	t.Helper()
	if a, b := narrow.Reach(c, n); a != low || b != high {
		t.Errorf("Reach %v %v: %d %d, not %d %d", c, n, a, b, low, high)
	}
}

func apart(t *testing.T, a, b api.Core, axis api.Point, gap int) {
	t.Helper()
	want := api.Apart{Axis: axis, Gap: gap}
	if got, ok := narrow.Apart(a, b); !ok || got != want {
		t.Errorf("Apart %v %v: %v %v, not %v", a, b, got, ok, want)
	}
}

func refused(t *testing.T, a, b api.Core) {
	t.Helper()
	if got, ok := narrow.Apart(a, b); ok || got != (api.Apart{}) {
		t.Errorf("Apart %v %v: %v %v", a, b, got, ok)
	}
}

// into are the points with n in one of their parts, and rest in the others.
func into(n, rest int) []api.Point {
	return []api.Point{p(n, rest, rest), p(rest, n, rest), p(rest, rest, n)}
}

// beyond are numbers of a size above most.
func beyond(most int) []int {
	return []int{most + 1, -most - 1, 2 * most, 1 << 32, -1 << 32, 1 << 61, -1 << 61, 1 << 62, -1 << 62, math.MaxInt, math.MinInt, math.MinInt + 1}
}

func TestN1Sizes(t *testing.T) {
	const most = 1 << 24
	for _, x := range []struct {
		n       api.Point
		low, up int
	}{
		{p(0, 0, 0), 0, 0}, {p(1, 0, 0), 1, 1}, {p(0, -1, 0), 1, 1}, {p(0, 0, 2), 2, 2},
		{p(3, 4, 0), 5, 5}, {p(-3, 0, 4), 5, 5}, {p(0, 3, -4), 5, 5}, {p(2, 3, 6), 7, 7}, {p(-2, -3, -6), 7, 7},
		{p(1, 1, 0), 1, 2}, {p(1, 1, 1), 1, 2}, {p(2, 2, 0), 2, 3}, {p(2, 2, 1), 3, 3}, {p(3, 1, 0), 3, 4},
		{p(2, 1, 0), 2, 3}, {p(2, 2, 2), 3, 4}, // 5 and 12: just above a square, not far below one
		{p(most, 0, 0), most, most}, {p(0, -most, 0), most, most}, {p(0, 0, most), most, most},
		{p(most, 1, 0), most, most + 1}, {p(0, most, -1), most, most + 1}, {p(most-1, 0, 0), most - 1, most - 1},
		{p(most, most, 0), 23726566, 23726567}, {p(most, -most, most), 29058990, 29058991},
		{p(most, most, most/2), most / 2 * 3, most / 2 * 3}, {p(3<<22, 1<<24, 0), 5 << 22, 5 << 22},
		{p(3<<22, 1<<24, 1), 5 << 22, 5<<22 + 1}, {p(3<<22, 1<<24-1, 0), 5<<22 - 1, 5 << 22},
	} {
		sizes(t, x.n, x.low, x.up)
	}
	for _, n := range beyond(most) {
		for _, rest := range []int{0, 1, -most} {
			for _, q := range into(n, rest) {
				sizes(t, q, 0, 0)
			}
		}
	}
}

func TestN1Reach(t *testing.T) {
	three := points(1, 2, 3, -4, 5, -6, 7, -8, 9)
	for _, x := range []struct {
		c         api.Core
		n         api.Point
		low, high int
	}{
		{points(0, 0, 0, 3, 1, 0), p(1, 2, 0), 0, 5},
		{points(0, 0, 0, 3, 1, 0), p(-1, 0, 0), -3, 0},
		{points(5, 6, 7), p(1, 10, 100), 765, 765},
		{points(-5, -6, -7), p(1, 10, 100), -765, -765},
		{three, p(1, 0, 0), -4, 7}, {three, p(0, 1, 0), -8, 5}, {three, p(0, 0, 1), -6, 9},
		{three, p(0, 0, 0), 0, 0}, {three, p(1, 1, 1), -5, 8}, {three, p(-1, 1, 2), -3, 7},
		{points(3, 0, 0, 2, 0, 0, 1, 0, 0), p(1, 0, 0), 1, 3}, // none of them is nought
		{points(-1, 0, 0, -2, 0, 0, -3, 0, 0), p(1, 0, 0), -3, -1},
		{points(4, 0, 0, 4, 0, 0), p(1, 0, 0), 4, 4},
		{api.Core{Points: list(1, 1, 1), Radius: -99, Axes: list(1<<40, 0, 0), Edges: list(1<<40, 0, 0)}, p(1, 0, 0), 1, 1}, // nothing else is asked
		{api.Core{}, p(1, 2, 3), 0, 0},
		{api.Core{Points: []api.Point{}, Axes: list(1, 2, 3), Edges: list(4, 5, 6), Radius: 7}, p(1, 2, 3), 0, 0},
	} {
		reaches(t, x.c, x.n, x.low, x.high)
	}
}

func TestN1ReachSizes(t *testing.T) {
	const most = 1 << 26
	reaches(t, points(most, most, most, -most, -most, -most), p(most, most, most), -3<<52, 3<<52)
	for _, n := range []int{most, -most} {
		for _, q := range into(n, 0) {
			reaches(t, points(1, 1, 1), q, n, n)
			reaches(t, api.Core{Points: []api.Point{q}}, p(1, 1, 1), n, n)
		}
	}
	for _, n := range beyond(most) {
		for _, rest := range []int{0, 1, -most} {
			for _, q := range into(n, rest) {
				reaches(t, points(1, 1, 1), q, 0, 0)
				reaches(t, points(0, 0, 0, 5, 5, 5), q, 0, 0)
				reaches(t, api.Core{Points: []api.Point{q}}, p(1, 1, 1), 0, 0)
				reaches(t, api.Core{Points: []api.Point{q, p(1, 1, 1)}}, p(1, 1, 1), 0, 0)
				reaches(t, api.Core{Points: []api.Point{p(1, 1, 1), p(2, 2, 2), q}}, p(0, 0, 0), 0, 0)
			}
		}
	}
}

// TestN1Many: a core that is reached may have as many points as it likes.
func TestN1Many(t *testing.T) {
	var c api.Core
	for i := range 10000 {
		c.Points = append(c.Points, p(i*7%10000, 0, -i))
	}
	reaches(t, c, p(1, 0, 0), 0, 9999)
	reaches(t, c, p(0, 0, 2), -19998, 0)
}

// odd are cores of which something is wrong, one thing each.
func odd() []api.Core {
	l := []api.Core{
		{}, {Points: []api.Point{}, Axes: list(1, 0, 0), Edges: list(1, 0, 0), Radius: 1},
		{Points: make([]api.Point, 33)}, {Points: make([]api.Point, 1000)},
		{Points: make([]api.Point, 1), Axes: make([]api.Point, 129)},
		{Points: make([]api.Point, 1), Edges: make([]api.Point, 129)},
	}
	for _, n := range append(beyond(1<<16), -1, -2, -1<<16) {
		l = append(l, ball(n, 0, 0, 0))
	}
	for _, n := range beyond(1 << 24) {
		for _, q := range into(n, 0) {
			l = append(l, api.Core{Points: []api.Point{q}}, api.Core{Points: []api.Point{{}, {}, q}})
		}
	}
	for _, n := range beyond(1 << 20) {
		for _, q := range into(n, 0) {
			l = append(l, api.Core{Points: list(0, 0, 0), Axes: []api.Point{q}}, api.Core{Points: list(0, 0, 0), Edges: []api.Point{q}},
				api.Core{Points: list(0, 0, 0), Axes: []api.Point{{}, {X: 1}, q}}, api.Core{Points: list(0, 0, 0), Edges: []api.Point{{}, {X: 1}, q}})
		}
	}
	return l
}

func TestN2MayNotBe(t *testing.T) {
	good := brick(t, 1, 2, 3, 4)
	for _, c := range odd() {
		refused(t, c, good)
		refused(t, good, c)
		refused(t, c, c)
		refused(t, ball(1, 0, 0, 0), c)
	}
	for _, c := range odd() {
		refused(t, c, odd()[0])
	}
}

// filled is a list of so many points, with q the last one.
func filled(many int, q api.Point) []api.Point { return append(make([]api.Point, many-1), q) }

// TestN2MayBe has cores with as much of all as they may have.
func TestN2MayBe(t *testing.T) {
	const far = 1 << 24
	apart(t, points(-far, 0, 0), points(far, 0, 0), p(long, 0, 0), 2*far)
	apart(t, points(far, far, far), points(-far, -far, -far), p(-long, -long, -long), 58117978)
	for _, q := range into(far, 0) {
		apart(t, api.Core{Points: filled(32, q)}, points(0, 0, 0), p(-q.X/16, -q.Y/16, -q.Z/16), 0)
		apart(t, api.Core{Points: []api.Point{p(-q.X, -q.Y, -q.Z)}}, points(0, 0, 0), p(q.X/16, q.Y/16, q.Z/16), far)
	}
	apart(t, ball(1<<16, 0, 0, 0), ball(1<<16, 0, 10, 0), p(0, long, 0), 10-1<<17)
	apart(t, ball(1<<16, 0, 0, 0), ball(0, 0, -10, 0), p(0, -long, 0), 10-1<<16)
	for _, n := range []int{long, -long} {
		for _, q := range into(n, 0) {
			four := api.Core{Points: filled(4, q), Axes: filled(128, q)}
			apart(t, four, points(0, 0, 0, 0, 0, 0, 0, 0, 0), p(-q.X, -q.Y, -q.Z), 0)
			apart(t, points(0, 0, 0, 0, 0, 0, 0, 0, 0), four, q, 0)
		}
	}
	edges := api.Core{Points: list(0, 0, 0, 0, 0, 5, 0, 0, 9), Edges: filled(128, p(long, 0, 0))}
	others := api.Core{Points: list(0, 0, 9, 0, 0, 17, 0, 0, 20), Edges: filled(128, p(0, long, 0))}
	apart(t, edges, others, p(0, 0, long), 0)
	apart(t, others, edges, p(0, 0, -long), 0)
	others.Edges = filled(128, p(0, -long, 0))
	apart(t, edges, others, p(0, 0, long), 0)
}

func TestN2NoCandidate(t *testing.T) {
	apart(t, ball(2, 7, 8, 9), ball(3, 7, 8, 9), p(0, 0, long), -5)
	apart(t, ball(0, 7, 8, 9), ball(0, 7, 8, 9), p(0, 0, long), 0)
	apart(t, points(1, 1, 1, 1, 1, 1), points(1, 1, 1, 1, 1, 1, 1, 1, 1), p(0, 0, long), 0)
	three, four := points(0, 0, 0, 5, 0, 0, 0, 5, 0), points(90, 0, 0, 95, 0, 0, 90, 5, 0, 90, 0, 5)
	four.Radius = 6
	apart(t, three, four, p(0, 0, long), -6) // many points without directions: nothing is asked of them
	three.Axes, four.Edges = list(0, 0, 0), list(1, 0, 0)
	apart(t, three, four, p(0, 0, long), -6)
	three.Edges, four.Edges = list(1, 0, 0, 0, 0, 0, -5, 0, 0), list(1, 0, 0, 0, 0, 0)
	apart(t, three, four, p(0, 0, long), -6) // along one another
	three.Axes = list(0, 0, 0, 0, 1, 0)      // it is a candidate now, though it tells no more than none did
	apart(t, three, four, p(0, long, 0), -11)
}

// TestN2Points: points are held against points, if one of both has at most two.
func TestN2Points(t *testing.T) {
	one, two, three := points(0, 0, 0), points(0, 0, 0, -3, 0, 0), points(0, 0, 0, -3, 0, 0, 0, -3, 0)
	apart(t, one, points(6, 8, 0), p(3<<18, 1<<20, 0), 10)
	apart(t, one, points(6, 8, 0, 9, 9, 9, 7, 9, 1, 8, 8, 8), p(3<<18, 1<<20, 0), 10)
	apart(t, two, points(6, 8, 0, 9, 9, 9, 7, 9, 1, 8, 8, 8), p(3<<18, 1<<20, 0), 10)
	apart(t, three, points(6, 8, 0), p(3<<18, 1<<20, 0), 10)
	apart(t, three, points(6, 8, 0, 9, 9, 9), p(3<<18, 1<<20, 0), 10)
	apart(t, three, points(6, 8, 0, 9, 9, 9, 8, 8, 8), p(0, 0, long), 0)
}

// TestN2Way: of a point near an edge, what is across the edge; the edge is a's or b's.
func TestN2Way(t *testing.T) {
	bar := capsule(t, 1, 100)
	apart(t, bar, ball(2, 50, 3, 4), p(0, 3<<18, 1<<20), 2)
	apart(t, ball(2, 50, 3, 4), bar, p(0, -3<<18, -1<<20), 2)
	apart(t, bar, ball(2, -50, -3, 4), p(0, -3<<18, 1<<20), 2)
	apart(t, bar, ball(2, 103, 4, 0), p(3<<18, 1<<20, 0), 2) // beyond its end
}

// TestN2Cross: two edges that go past one another are told apart by what is across
// both.
func TestN2Cross(t *testing.T) {
	bar := capsule(t, 1, 100)
	other := api.Core{Points: list(0, -100, 0, 0, 100, 0), Edges: list(0, 1, 0), Radius: 2}
	apart(t, bar, moved(other, 50, 60, 10), p(0, 0, long), 7)
	apart(t, bar, moved(other, 50, 60, -10), p(0, 0, -long), 7)
	apart(t, moved(other, 50, 60, 10), bar, p(0, 0, -long), 7)
	apart(t, bar, moved(other, 50, 60, 1), p(0, 0, long), -2)
	four := api.Core{Points: list(0, -100, 0, 0, 100, 0, 0, 7, 0, 0, 8, 0), Edges: list(0, 0, 0, 0, 2, 0, 0, -4, 0), Radius: 2}
	eight := api.Core{Points: list(100, 0, 0, -100, 0, 0, 1, 0, 0), Edges: list(1, 1<<20, 0, 3, 0, 0)}
	apart(t, eight, moved(four, 9, 9, 5), p(0, 0, long), 3)
	apart(t, eight, moved(four, 9, 9, -5), p(0, 0, -long), 3)
}

// slanted are two of three points each, told apart by one axis alone, so far from
// one another along it.
func slanted(far int) (a, b api.Core) {
	a, b = points(0, 0, 0, -1, 0, 5, 0, -1, 9), points(far, 0, 0, far, 1, 3, far+1, 0, 5)
	a.Axes = list(1, 1, 0)
	return a, b
}

// TestN2Down: 2^20 times (1 1 0) is 1482910.4 long; what is apart is by the greater
// size, down.
func TestN2Down(t *testing.T) {
	for _, x := range []struct{ far, gap int }{
		{0, 0}, {1, 0}, {2, 1}, {3, 2}, {4, 2}, {5, 3},
		{3363, 2377}, // 2378.0001 by the length
		{577, 408}, {99, 70},
	} {
		a, b := slanted(x.far)
		apart(t, a, b, p(long, long, 0), x.gap)
		a.Radius, b.Radius = 300, 21
		apart(t, a, b, p(long, long, 0), x.gap-321)
	}
}

// TestN2Deep: what is not apart is by the lesser size, away from nought. (Both are so
// wide that the other way round tells less.)
func TestN2Deep(t *testing.T) {
	for _, x := range []struct{ far, gap int }{
		{-1, -1}, {-2, -2}, {-3, -3}, {-7, -5},
		{-1393, -986}, // -984.9997 by the length
		{-99, -71}, {-577, -409},
	} {
		a, b := points(0, 0, 0, -1<<16, 0, 5, 0, -1<<16, 9), points(x.far, 0, 0, 1<<16, 1, 3, 1<<16, 0, 5)
		b.Axes = list(1, 1, 0)
		apart(t, a, b, p(long, long, 0), x.gap)
		a.Radius, b.Radius = 300, 21
		apart(t, a, b, p(long, long, 0), x.gap-321)
		apart(t, b, a, p(-long, -long, 0), x.gap-321)
	}
}

// TestN2Long: axes are made short first, whatever they are handed in as, and then
// doubled till one part is above 2^19.
func TestN2Long(t *testing.T) {
	for _, x := range []struct{ from, want api.Point }{
		{p(1, 0, 0), p(long, 0, 0)}, {p(-7, 0, 0), p(-long, 0, 0)}, {p(0, 0, long), p(0, 0, long)},
		{p(1<<19, 1, 0), p(long, 2, 0)}, {p(1<<19+1, 1, 0), p(1<<19+1, 1, 0)}, {p(-1<<19, 1, 0), p(-long, 2, 0)},
		{p(-1<<19-1, 1, 0), p(-1<<19-1, 1, 0)}, {p(3, -5, 7), p(3<<17, -5<<17, 7<<17)}, {p(6, -10, 14), p(3<<17, -5<<17, 7<<17)},
		{p(long, long-1, -long), p(long, long-1, -long)}, {p(long-3, 0, 3-long), p(long, 0, -long)},
		{p(1, 1, 1<<19), p(2, 2, long)}, {p(3, 1<<19-1, 1<<18), p(6, 1<<20-2, 1<<19)},
	} {
		same := points(5, 5, 5, 5, 5, 5, 5, 5, 5)
		a := api.Core{Points: same.Points, Axes: []api.Point{x.from}}
		apart(t, a, same, x.want, 0)
		apart(t, same, a, x.want, 0)
	}
}

// TestN2First: where all candidates tell the same, the first one is told.
func TestN2First(t *testing.T) {
	same := list(4, 4, 4, 4, 4, 4, 4, 4, 4)
	x, y, z := list(1, 0, 0), list(0, 1, 0), list(0, 0, 1)
	for _, c := range []struct {
		a, b api.Core
		want api.Point
	}{
		{api.Core{Points: same, Axes: x, Edges: y}, api.Core{Points: same, Axes: z, Edges: x}, p(long, 0, 0)},
		{api.Core{Points: same, Edges: y}, api.Core{Points: same, Axes: y, Edges: x}, p(0, long, 0)},
		{api.Core{Points: same, Edges: y}, api.Core{Points: same, Edges: x}, p(0, 0, -long)},
		{api.Core{Points: same, Edges: x}, api.Core{Points: same, Edges: y}, p(0, 0, long)},
		{api.Core{Points: same, Edges: list(1, 0, 0, 0, 1, 0)}, api.Core{Points: same, Edges: list(1, 0, 0, 0, 0, 1)}, p(0, -long, 0)},
		{api.Core{Points: same, Axes: list(0, 0, 0, 0, -3, 0, 1, 0, 0)}, api.Core{Points: same}, p(0, -long, 0)},
		{api.Core{Points: same, Axes: list(1, 0, 0, -1, 0, 0)}, api.Core{Points: same}, p(long, 0, 0)},
		{api.Core{Points: same, Axes: list(-1, 0, 0, 1, 0, 0)}, api.Core{Points: same}, p(-long, 0, 0)},
	} {
		apart(t, c.a, c.b, c.want, 0)
	}
}

// TestN2FirstPoints: the points of a go first, each with all of b's; a way is ahead
// of what is across its edges.
func TestN2FirstPoints(t *testing.T) {
	apart(t, points(5, 0, 0, -5, 0, 0), points(0, 0, 0), p(-long, 0, 0), -5) // from 5 to 0, not the other way round
	apart(t, points(-5, 0, 0, 5, 0, 0), points(0, 0, 0), p(long, 0, 0), -5)
	apart(t, points(0, 0, 0), points(0, 5, 0, 0, -5, 0), p(0, long, 0), -5)
	apart(t, points(0, 0, 0, 0, 0, 0), points(0, 0, 5, 0, 5, 0, 0, 0, -5, 0, -5, 0), p(0, 0, long), -5)
	apart(t, points(5, 0, 0, 0, 5, 0, -5, 0, 0, 0, -5, 0), points(0, 0, 0, 0, 0, 0), p(-long, 0, 0), -5)
	diamond := api.Core{Points: list(4, 4, 0, 4, -4, 0, -4, -4, 0, -4, 4, 0), Edges: list(1, 0, 0)}
	apart(t, points(0, 0, 0), diamond, p(0, long, 0), -4)
	diamond.Edges = list(0, 1, 0)
	apart(t, points(0, 0, 0), diamond, p(long, 0, 0), -4)
	diamond.Edges = list(0, 1, 0, 1, 0, 0)
	apart(t, points(0, 0, 0), diamond, p(long, 0, 0), -4)
	apart(t, api.Core{Points: list(0, 0, 0), Edges: list(1, 0, 0)}, diamond, p(0, 0, long), 0) // the cross of both
}

// TestN2Bricks: bricks that stand straight are apart by what is between their sides,
// or by their edges' corners, if they are apart by more than one side.
func TestN2Bricks(t *testing.T) {
	two, flat := brick(t, 0, 2, 2, 2), brick(t, 1, 9, 1, 9)
	apart(t, two, two, p(long, 0, 0), -4)
	apart(t, two, moved(two, 3, 0, 0), p(long, 0, 0), -1)
	apart(t, two, moved(two, -4, 0, 0), p(-long, 0, 0), 0)
	apart(t, two, moved(two, 0, 9, 0), p(0, long, 0), 5)
	apart(t, two, moved(two, 1, 2, -3), p(0, 0, -long), -1)
	apart(t, moved(two, 0, 3, 0), flat, p(0, -long, 0), -1)
	apart(t, moved(two, 0, 4, 0), flat, p(0, -long, 0), 0)
	apart(t, flat, moved(two, 3, 40, 3), p(0, long, 0), 36)
	apart(t, two, moved(two, 7, 8, 0), p(0, long, 0), 4) // bricks have no direction from corner to corner
}

// TestN2Far: what is far from the middle is told apart as it is there.
func TestN2Far(t *testing.T) {
	const far = 1<<24 - 9
	a, b := brick(t, 1, 2, 3, 4), brick(t, 2, 1, 2, 1)
	for _, at := range []api.Point{{}, p(far, far, far), p(-far, far, -far)} {
		apart(t, pose.Moved(a, at), moved(pose.Moved(b, at), 1, -5, 1), p(0, -long, 0), -3)
		apart(t, pose.Moved(b, at), moved(pose.Moved(a, at), 1, -5, 1), p(0, -long, 0), -3)
	}
}

// roomy is a core whose lists stand one behind another in one room, with something
// behind the last one.
func roomy() (api.Core, []api.Point) {
	room := list(1, 2, 3, 4, 5, 6, 2, 0, 0, 0, 4, 0, 0, 0, 6, 77, 77, 77)
	return api.Core{Points: room[:2], Axes: room[2:4], Edges: room[4:5], Radius: 4}, room
}

// TestHandedIn: nothing is written into what is handed in, nor behind it, nor is it
// kept.
func TestHandedIn(t *testing.T) {
	a, room := roomy()
	b, other := roomy()
	was := slices.Clone(room)
	first, _ := narrow.Apart(a, b)
	narrow.Apart(a, a)
	narrow.Reach(a, p(1, 2, 3))
	if !slices.Equal(room, was) || !slices.Equal(other, was) {
		t.Error(room, other)
	}
	clear(room)
	a, _ = roomy()
	if again, ok := narrow.Apart(a, b); !ok || again != first {
		t.Error(again, first)
	}
}

func TestExamples(t *testing.T) {
	sizes(t, p(3, 4, 0), 5, 5)
	sizes(t, p(1, 1, 0), 1, 2)
	reaches(t, points(0, 0, 0, 3, 1, 0), p(1, 2, 0), 0, 5)
	apart(t, ball(2, 0, 0, 0), ball(3, 10, 0, 0), p(1<<20, 0, 0), 5)
	apart(t, ball(2, 0, 0, 0), ball(3, 4, 0, 0), p(1<<20, 0, 0), -1)
	two := brick(t, 0, 2, 2, 2)
	apart(t, two, moved(two, 3, 0, 0), p(1<<20, 0, 0), -1)
	apart(t, two, two, p(1<<20, 0, 0), -4)
}
