package shape_test

import (
	"math"
	"reflect"
	"slices"
	"testing"

	"tumbler/api"
	"tumbler/shape"
)

const one = api.One

func p(x, y, z int) api.Point { return api.Point{X: x, Y: y, Z: z} }

func v(x, y, z int) api.Vec { return api.Vec{X: x, Y: y, Z: z} }

// list is the points of these numbers, three by three.
func list(parts ...int) []api.Point {
	var l []api.Point
	for i := 0; i+2 < len(parts); i += 3 {
		l = append(l, p(parts[i], parts[i+1], parts[i+2]))
	}
	return l
}

func ball(radius int) api.Shape { return api.Shape{Kind: api.Ball, Radius: radius} }

func capsule(radius, x int) api.Shape {
	return api.Shape{Kind: api.Capsule, Radius: radius, Half: p(x, 0, 0)}
}

func brick(radius, x, y, z int) api.Shape {
	return api.Shape{Kind: api.Brick, Radius: radius, Half: p(x, y, z)}
}

func hull(radius int, points ...api.Point) api.Shape {
	return api.Shape{Kind: api.Hull, Radius: radius, Points: points}
}

// round are twelve points of which no four lie in one plane, of parts up to 12.
func round() []api.Point {
	var l []api.Point
	for i := range 12 {
		n := i + 1
		l = append(l, p(n, n*n%13, n*n*n%13))
	}
	return l
}

func short(t *testing.T, q, want api.Point) {
	t.Helper()
	if got := shape.Short(q); got != want {
		t.Errorf("Short %v: %v, not %v", q, got, want)
	}
}

// refused looks that all three calls answer this error, and nothing beside it.
func refused(t *testing.T, s api.Shape, want api.Errno) {
	t.Helper()
	if e := shape.Check(s); e != want {
		t.Errorf("Check %v: %d, not %d", s, e, want)
	}
	c, e := shape.Core(s)
	if e != want || len(c.Points)+len(c.Axes)+len(c.Edges)+c.Radius != 0 {
		t.Errorf("Core %v: %v %d, not %d", s, c, e, want)
	}
	for _, mass := range []int{one, 0, -1, api.MaxMass + 1} { // the shape's error is the first one
		if m, e := shape.Mass(s, mass); e != want || m != (api.Mass{}) {
			t.Errorf("Mass %v: %v %d, not %d", s, m, e, want)
		}
	}
}

// taken looks that no call refuses the shape, and that its core has its Radius.
func taken(t *testing.T, s api.Shape) {
	t.Helper()
	if e := shape.Check(s); e != api.OK {
		t.Errorf("Check %v: %d", s, e)
	}
	if c, e := shape.Core(s); e != api.OK || len(c.Points) == 0 || c.Radius != s.Radius {
		t.Errorf("Core %v: %v %d", s, c, e)
	}
	if m, e := shape.Mass(s, one); e != api.OK || m.Mass != one {
		t.Errorf("Mass %v: %v %d", s, m, e)
	}
}

func core(t *testing.T, s api.Shape, points, axes, edges []api.Point) {
	t.Helper()
	c, e := shape.Core(s)
	if e != api.OK || c.Radius != s.Radius {
		t.Errorf("Core %v: Radius %d, %d", s, c.Radius, e)
	}
	if !slices.Equal(c.Points, points) {
		t.Errorf("Core %v: Points %v, not %v", s, c.Points, points)
	}
	if !slices.Equal(c.Axes, axes) {
		t.Errorf("Core %v: Axes %v, not %v", s, c.Axes, axes)
	}
	if !slices.Equal(c.Edges, edges) {
		t.Errorf("Core %v: Edges %v, not %v", s, c.Edges, edges)
	}
}

func mass(t *testing.T, s api.Shape, n int, want api.Vec) {
	t.Helper()
	m, e := shape.Mass(s, n)
	if e != api.OK || m != (api.Mass{Mass: n, Inertia: want}) {
		t.Errorf("Mass %v %d: %v %d, not %v", s, n, m, e, want)
	}
}

func TestH1Short(t *testing.T) {
	for _, c := range [][2]api.Point{
		{p(0, 0, 0), p(0, 0, 0)},
		{p(1, 0, 0), p(1, 0, 0)}, {p(0, -1, 0), p(0, -1, 0)}, {p(0, 0, 7), p(0, 0, 1)}, {p(-9, 0, 0), p(-1, 0, 0)},
		{p(6, -4, 0), p(3, -2, 0)}, {p(0, 6, -4), p(0, 3, -2)}, {p(6, 0, -4), p(3, 0, -2)},
		{p(6, 10, 15), p(6, 10, 15)}, // each two of them have something in common, all three nothing
		{p(12, 20, 30), p(6, 10, 15)}, {p(-12, -18, -24), p(-2, -3, -4)}, {p(5, 5, 5), p(1, 1, 1)},
		{p(2, 3, 4), p(2, 3, 4)}, {p(-7, 14, 21), p(-1, 2, 3)},
	} {
		short(t, c[0], c[1])
	}
}

func TestH1ShortHalves(t *testing.T) {
	const most = 1 << 20
	for _, c := range [][2]api.Point{
		{p(most, 1, 0), p(most, 1, 0)}, {p(-1, 0, -most), p(-1, 0, -most)}, {p(1, most-1, most), p(1, most-1, most)},
		{p(most+1, 1, 0), p(1, 0, 0)},        // to (2^19 0 0), which is divided once more
		{p(0, -most-1, 3), p(0, -most/2, 1)}, // to nought, not down
		{p(most+1, -3, 3), p(most/2, -1, 1)},
		{p(-3, 5, 2*most+1), p(-1, 2, most)},  // once: 2^20 is short
		{p(-3, 5, 2*most+2), p(0, 1, most/2)}, // twice
		{p(2*most+1, 2*most, 0), p(1, 1, 0)},
		{p(2*most+1, 0, 1), p(1, 0, 0)},
		{p(3*(most+1), 9, -9), p(most/2, 1, -1)}, // by 3 first, then halved
		{p(3*most, 3, 0), p(most, 1, 0)},         // by 3, which is enough
		{p(most+2, 2, 6), p(most/2+1, 1, 3)},
		{p(2*most+6, 4, 12), p(most/2+1, 1, 3)}, // by 2, then halved
		{p(1<<42, 1, 0), p(1, 0, 0)}, {p(1<<42, -1<<42, 0), p(1, -1, 0)}, {p(0, 0, -1<<42), p(0, 0, -1)},
		{p(1<<42-1, 1<<42, 1<<41), p(most-1, most, most/2)}, // 22 times
		{p(1<<42-1, 0, 1<<22-1), p(1, 0, 0)},                // what is below 2^22 is nought then
		{p(1<<42-1, 0, -1<<22), p(most-1, 0, -1)},           // and 2^22 is 1
		{p(1<<42-2, 3, -1<<22), p(most-1, 0, -1)},
	} {
		short(t, c[0], c[1])
	}
}

func TestH1ShortTooLong(t *testing.T) {
	for _, n := range []int{1<<42 + 1, 1<<42 + 2, 1 << 43, 1 << 62, math.MaxInt, math.MaxInt - 1} {
		for _, rest := range []int{0, 1, -1, 1 << 42, n} {
			for _, q := range []api.Point{p(n, rest, 0), p(rest, n, 0), p(0, rest, n)} {
				short(t, q, api.Point{})
				short(t, p(-q.X, -q.Y, -q.Z), api.Point{})
			}
		}
	}
	for _, n := range []int{math.MinInt, math.MinInt + 1} {
		short(t, p(n, 0, 0), api.Point{})
		short(t, p(0, n, 1), api.Point{})
		short(t, p(1, 1, n), api.Point{})
		short(t, p(n, n, n), api.Point{})
	}
}

// far are numbers that no shape has anywhere.
func far() []int {
	return []int{1<<16 + 1, 1 << 17, 1 << 32, 1<<32 + 1, 1 << 62, math.MaxInt, -1<<16 - 1, -1 << 32, math.MinInt, math.MinInt + 1}
}

func TestH2Radius(t *testing.T) {
	box, tip := p(1, 1, 1), list(0, 0, 0, 1, 0, 0, 0, 1, 0, 0, 0, 1)
	for kind, least := range map[int]int{api.Ball: 1, api.Capsule: 1, api.Brick: 0, api.Hull: 0} {
		s := api.Shape{Kind: kind, Half: box, Points: tip}
		for _, n := range append([]int{least - 1, -1, 1<<14 + 1, 1 << 16}, far()...) {
			s.Radius = n
			refused(t, s, api.ErrShapeForm)
		}
		for _, n := range []int{least, 1, 2, 1<<14 - 1, 1 << 14} {
			s.Radius = n
			taken(t, s)
		}
	}
}

func TestH2Half(t *testing.T) {
	for _, n := range append([]int{0, -1}, far()...) {
		for _, s := range []api.Shape{capsule(1, n), brick(1, n, 1, 1), brick(1, 1, n, 1), brick(1, 1, 1, n), brick(0, n, n, n)} {
			refused(t, s, api.ErrShapeForm)
		}
	}
	for _, n := range []int{1, 2, 1<<16 - 1, 1 << 16} {
		for _, s := range []api.Shape{capsule(1, n), brick(1, n, 1, 1), brick(1, 1, n, 1), brick(1, 1, 1, n), brick(0, n, n, n)} {
			taken(t, s)
		}
	}
}

func TestH2HowManyPoints(t *testing.T) {
	l := append(round(), p(0, 0, 0))
	for n := range l {
		switch {
		case n < 4 || n > 12:
			refused(t, hull(0, l[:n]...), api.ErrShapeForm)
		default:
			taken(t, hull(0, l[:n]...))
		}
	}
	refused(t, hull(0, l...), api.ErrShapeForm)
	refused(t, hull(0, make([]api.Point, 1<<20)...), api.ErrShapeForm)
	refused(t, api.Shape{Kind: api.Hull}, api.ErrShapeForm)
	refused(t, api.Shape{Kind: api.Hull, Points: []api.Point{}}, api.ErrShapeForm)
	refused(t, api.Shape{Kind: api.Hull, Half: p(1, 1, 1)}, api.ErrShapeForm)
}

// TestH2Unlike lays each point of twelve over each other one.
func TestH2Unlike(t *testing.T) {
	for i := range 12 {
		for j := range 12 {
			l := round()
			l[i] = l[j]
			if i == j {
				taken(t, hull(0, l...))
			} else {
				refused(t, hull(0, l...), api.ErrShapeForm)
			}
		}
	}
	refused(t, hull(0, list(0, 0, 0, 1, 0, 0, 0, 1, 0, 0, 0, 0)...), api.ErrShapeForm) // of one plane, too
	refused(t, hull(0, make([]api.Point, 4)...), api.ErrShapeForm)
}

// TestH2Far lays what is just within and what is beyond into each part of each
// point.
func TestH2Far(t *testing.T) {
	for i := range 12 {
		for part := range 3 {
			lay := func(n int) api.Shape {
				l := round()
				*[]*int{&l[i].X, &l[i].Y, &l[i].Z}[part] = n
				return hull(0, l...)
			}
			for _, n := range far() {
				refused(t, lay(n), api.ErrShapeForm)
			}
			taken(t, lay(1<<16))
			taken(t, lay(-1<<16))
		}
	}
	refused(t, hull(0, list(0, 0, 0, 1, 0, 0, 2, 0, 0, 1<<16+1, 0, 0)...), api.ErrShapeForm) // on one line, too
}

func TestH2Flat(t *testing.T) {
	const most = 1 << 16
	for _, l := range [][]api.Point{
		list(0, 0, 0, 1, 0, 0, 0, 1, 0, 1, 1, 0),
		list(0, 0, 0, 1, 0, 0, 2, 0, 0, 3, 0, 0), // on one line
		list(0, 0, 0, 1, 0, 0, 2, 0, 0, 3, 1, 0), // all but the last one on one line
		list(3, 1, 0, 0, 0, 0, 1, 0, 0, 2, 0, 0),
		list(5, 0, 0, 0, 5, 0, 0, 0, 5, 5, 5, -5, 1, 2, 2), // a plane that is not through the middle
		list(-most, -most, -most, most, most, most, -most, -most, most, most, most, -most),
		list(-most, -most, -most, most, most, most, 0, 0, 0, 1, 1, 1, most-1, most-1, most-1),
		list(0, 0, 7, 1, 0, 7, 2, 0, 7, 0, 1, 7, 1, 1, 7, 2, 1, 7, 0, 2, 7, 1, 2, 7, 2, 2, 7, 0, 3, 7, 1, 3, 7, 2, 3, 7),
	} {
		for range l { // each one stands first once
			l = append(l[1:], l[0])
			refused(t, hull(0, l...), api.ErrShapeFlat)
			refused(t, hull(1<<14, l...), api.ErrShapeFlat)
			refused(t, hull(-1, l...), api.ErrShapeForm) // which is told first
			refused(t, hull(1<<14+1, l...), api.ErrShapeForm)
		}
	}
}

// TestH2BarelyNotFlat: one point of all is beside the plane of the others, by one
// grain.
func TestH2BarelyNotFlat(t *testing.T) {
	const most = 1 << 16
	plane := list(0, 0, 7, 1, 0, 7, 2, 0, 7, 3, 0, 7, 4, 0, 7, 0, 1, 7, 1, 1, 7, 2, 1, 7, 0, 2, 7, 1, 2, 7, 2, 2, 7, 5, 0, 7)
	for i := range plane {
		for _, by := range []int{-1, 1} {
			l := slices.Clone(plane)
			l[i].Z += by
			taken(t, hull(0, l...))
		}
	}
	taken(t, hull(0, list(-most, -most, -most, most, most, most, -most, -most, most, most, most-1, -most)...))
	taken(t, hull(0, list(-most, -most, -most, most, most, most, 0, 0, 0, 1, 0, 0, 0, 1, 0)...))
	taken(t, hull(0, list(0, 0, 0, 1, 0, 0, 2, 0, 0, 0, 1, 0, 0, 0, 1)...)) // the first three on one line
}

func TestH2Kind(t *testing.T) {
	for _, kind := range append([]int{0, 5, 6, -1, -4, 1<<32 + 1}, far()...) {
		refused(t, api.Shape{Kind: kind, Radius: 1, Half: p(1, 1, 1), Points: round()}, api.ErrShapeForm)
		refused(t, api.Shape{Kind: kind}, api.ErrShapeForm)
	}
}

// TestH2NotLookedAt: what a kind does not name may be whatever it likes, and
// nothing comes of it.
func TestH2NotLookedAt(t *testing.T) {
	flat := list(0, 0, 0, 1, 0, 0, 0, 1, 0, 1, 1, 0)
	for _, n := range append([]int{0, -1, 5}, far()...) {
		for _, l := range [][]api.Point{nil, make([]api.Point, 13), flat, {p(n, n, n)}} {
			for _, s := range [][2]api.Shape{
				{{Kind: api.Ball, Radius: 5, Half: p(n, n, n), Points: l}, ball(5)},
				{{Kind: api.Capsule, Radius: 5, Half: p(7, n, n), Points: l}, capsule(5, 7)},
				{{Kind: api.Brick, Radius: 5, Half: p(7, 8, 9), Points: l}, brick(5, 7, 8, 9)},
				{{Kind: api.Hull, Radius: 5, Half: p(n, n, n), Points: round()}, hull(5, round()...)},
			} {
				taken(t, s[0])
				got, _ := shape.Core(s[0])
				want, _ := shape.Core(s[1])
				core(t, s[0], want.Points, want.Axes, want.Edges)
				m, _ := shape.Mass(s[0], one)
				if k, _ := shape.Mass(s[1], one); m != k || got.Radius != want.Radius {
					t.Errorf("%v: %v, not %v", s[0], m, k)
				}
			}
		}
	}
}

func TestH3Ball(t *testing.T) {
	for _, r := range []int{1, 2, 1 << 14} {
		core(t, ball(r), list(0, 0, 0), nil, nil)
	}
}

func TestH3Capsule(t *testing.T) {
	for _, x := range []int{1, 5, 1 << 16} {
		core(t, capsule(3, x), list(-x, 0, 0, x, 0, 0), nil, list(1, 0, 0))
	}
}

func TestH3Brick(t *testing.T) {
	straight := list(1, 0, 0, 0, 1, 0, 0, 0, 1)
	for _, s := range []api.Shape{brick(0, 1, 2, 3), brick(4, 1<<16, 1, 77), brick(1<<14, 5, 5, 5)} {
		x, y, z := s.Half.X, s.Half.Y, s.Half.Z
		core(t, s, list(-x, -y, -z, -x, -y, z, -x, y, -z, -x, y, z, x, -y, -z, x, -y, z, x, y, -z, x, y, z), straight, straight)
	}
}

// TestH3Hull has hulls whose faces can be told by hand.
func TestH3Hull(t *testing.T) {
	for _, c := range []struct{ points, axes, edges []api.Point }{
		{ // a corner of a box
			list(0, 0, 0, 4, 0, 0, 0, 4, 0, 0, 0, 4),
			list(0, 0, -1, 0, -1, 0, -1, 0, 0, 1, 1, 1),
			list(1, 0, 0, 0, 1, 0, -1, 1, 0, 0, 0, 1, -1, 0, 1, 0, -1, 1),
		},
		{ // the same one, the other way round
			list(0, 0, 4, 0, 4, 0, 4, 0, 0, 0, 0, 0),
			list(1, 1, 1, -1, 0, 0, 0, -1, 0, 0, 0, -1),
			list(0, 1, -1, 1, 0, -1, 1, -1, 0, 0, 0, -1, 0, -1, 0, -1, 0, 0),
		},
		{ // a point within, a point in a face, a point on an edge
			list(0, 0, 0, 8, 0, 0, 0, 8, 0, 0, 0, 8, 1, 1, 1, 2, 3, 0, 4, 0, 0),
			list(0, 0, -1, 0, -1, 0, -1, 0, 0, 1, 1, 1),
			list(1, 0, 0, 0, 1, 0, -1, 1, 0, 0, 0, 1, -1, 0, 1, 2, 3, 0, -2, 1, 0, 0, -1, 1, 2, -5, 0, 1, -2, 0, 1, 0, -2, 2, -3, 0),
		},
		{ // eight faces, each edge's other way round is another one's
			list(-3, 0, 0, 3, 0, 0, 0, -3, 0, 0, 3, 0, 0, 0, -3, 0, 0, 3),
			list(-1, -1, -1, -1, -1, 1, -1, 1, -1, -1, 1, 1, 1, -1, -1, 1, -1, 1, 1, 1, -1, 1, 1, 1),
			list(1, -1, 0, 1, 0, -1, 0, 1, -1, 1, 0, 1, 0, 1, 1, 1, 1, 0),
		},
		{ // a pyramid on a square: the square's diagonals are edges, too
			list(-1, 0, -1, -1, 0, 1, 1, 0, -1, 1, 0, 1, 0, 2, 0),
			list(0, -1, 0, -2, 1, 0, 0, 1, -2, 0, 1, 2, 2, 1, 0),
			list(0, 0, 1, 1, 0, 0, 1, 0, -1, 1, 0, 1, 1, 2, 1, 1, 2, -1, -1, 2, 1, -1, 2, -1),
		},
	} {
		for _, r := range []int{0, 9} {
			core(t, hull(r, c.points...), c.points, c.axes, c.edges)
		}
	}
}

// TestH3HullBrick: a hull with a brick's corners has all six ways out, and the
// diagonals of its faces.
func TestH3HullBrick(t *testing.T) {
	c, _ := shape.Core(brick(0, 2, 2, 2))
	core(t, hull(0, c.Points...), c.Points,
		list(-1, 0, 0, 0, -1, 0, 0, 0, -1, 0, 0, 1, 0, 1, 0, 1, 0, 0),
		list(0, 0, 1, 0, 1, 0, 0, 1, -1, 0, 1, 1, 1, 0, 0, 1, 0, -1, 1, 0, 1, 1, -1, 0, 1, 1, 0))
}

// TestH3HullLong has directions across its faces that are too long to stay exact.
func TestH3HullLong(t *testing.T) {
	const most = 1 << 16
	points := list(0, 0, 0, most, 1, 3, 5, most, 2, 7, 11, -most)
	core(t, hull(0, points...), points,
		list(-47, -31, 1048575, 16, -1048576, -175, -1048576, 80, -111, 419443, 419411, -419315),
		list(65536, 1, 3, 5, 65536, 2, -65531, 65535, -1, 7, 11, -65536, -65529, 10, -65539, 2, -65525, -65538))
}

// TestH3ShortIsTheSame: two of these six faces are so nearly one plane that their
// directions are the same one when they are short.
func TestH3ShortIsTheSame(t *testing.T) {
	points := list(-65500, -65522, 454, 10976, -43396, -65, -62375, 25097, -197, -17191, 29674, -444, 0, 0, -65536)
	core(t, hull(0, points...), points,
		list(3982, 5879, 837528, 174083, -611896, -434766, -527103, 14522, -508770, 145493, 56151, 12827, -99367, 956012, -462068),
		list(76476, 22126, -519, 3125, 90619, -651, -73351, 68493, -132, 32750, 32761, -32995, -10976, 43396, -65471,
			62375, -25097, -65339, -28167, 73070, -379, 45184, 4577, -247, 17191, -29674, -65092))
}

func TestH4Ball(t *testing.T) {
	for _, c := range []struct{ radius, mass, want int }{
		{4096, one, 1717986918}, {8192, 5 * one, 8 * one}, {4096, 10 * one, 4 * one}, {2048, 10 * one, one},
		{1 << 14, api.MaxMass, 7036874417766}, // 16 * 256 * 2/5 of One, down
		{1 << 14, api.MinMass, 107374182},     // 16 / 256 * 2/5, down
		{64, one, 419430}, {63, one, 406425}, {1, api.MaxMass, 26214},
		{160, api.MinMass, 10240}, {101, api.MinMass, 4096}, // it is 4080.4
		{102, api.MinMass, 4161}, {1, api.MinMass, 4096}, {6, one, 4096}, {7, one, 5017},
	} {
		mass(t, ball(c.radius), c.mass, v(c.want, c.want, c.want))
	}
}

func TestH4Box(t *testing.T) {
	for _, c := range []struct {
		s    api.Shape
		mass int
		want api.Vec
	}{
		{brick(0, 4096, 8192, 4096), 3 * one, v(5*one, 2*one, 5*one)},
		{brick(0, 4096, 8192, 12288), 3 * one, v(13*one, 10*one, 5*one)},
		{brick(4096, 4096, 8192, 12288), 3 * one, v(25*one, 20*one, 13*one)}, // the Radius is around it
		{capsule(4096, 4096), 3 * one, v(2*one, 5*one, 5*one)},
		{capsule(8192, 4096), 3 * one, v(8*one, 13*one, 13*one)},
		{hull(0, list(0, 0, 0, 8192, 0, 0, 0, 16384, 0, 0, 0, 24576)...), 3 * one, v(13*one, 10*one, 5*one)},
		{hull(4096, list(-5000, 7, 9, 3192, 7, 9, 0, 16391, 9, 0, 7, 24585)...), 3 * one, v(25*one, 20*one, 13*one)},
		{hull(4096, list(-5001, 6, 8, 3192, 7, 9, 0, 16391, 9, 0, 7, 24585)...), 3 * one, v(25*one, 20*one, 13*one)}, // half of what is odd, down
		{brick(0, 1, 1, 1), api.MinMass, v(4096, 4096, 4096)},
		{brick(0, 1, 1, 200), api.MinMass, v(13333, 13333, 4096)}, // of 40001 and of 2
		{brick(0, 78, 79, 1), api.MinMass, v(4096, 4096, 4108)},   // of 6242, 6085 and 12325
		{brick(0, 78, 78, 11), api.MinMass, v(4096, 4096, 4096)},  // of 12168: 4056
		{brick(0, 1<<16, 1<<16, 1<<16), api.MaxMass, v(187649984473770, 187649984473770, 187649984473770)},
		{brick(1<<14, 1<<16, 1<<16, 1<<16), api.MaxMass, v(293203100740266, 293203100740266, 293203100740266)},
	} {
		mass(t, c.s, c.mass, c.want)
	}
}

func TestH4Mass(t *testing.T) {
	shapes := []api.Shape{ball(9), capsule(9, 9), brick(0, 9, 9, 9), hull(0, round()...)}
	for _, s := range shapes {
		for _, n := range []int{0, 1, -1, api.MinMass - 1, -api.MinMass, api.MaxMass + 1, -api.MaxMass, 1 << 62, math.MaxInt, math.MinInt} {
			if m, e := shape.Mass(s, n); e != api.ErrBodyMass || m != (api.Mass{}) {
				t.Errorf("Mass %v %d: %v %d", s, n, m, e)
			}
		}
		for _, n := range []int{api.MinMass, api.MinMass + 1, one, api.MaxMass - 1, api.MaxMass} {
			if m, e := shape.Mass(s, n); e != api.OK || m.Mass != n {
				t.Errorf("Mass %v %d: %v %d", s, n, m, e)
			}
		}
	}
}

// grown is a list with all its spare room written over, and more behind it.
func grown(l []api.Point) []api.Point {
	l = l[:cap(l)]
	for i := range l {
		l[i] = p(-7, -7, -7)
	}
	return append(l, p(-8, -8, -8))
}

// TestNewMemory: whoever writes into an answer, or grows it, changes no other
// list, nor what was handed in.
func TestNewMemory(t *testing.T) {
	for _, s := range []api.Shape{ball(9), capsule(9, 9), brick(0, 1, 2, 3), hull(0, round()...)} {
		want, _ := shape.Core(s)
		for i := range 3 {
			c, _ := shape.Core(s)
			other, _ := shape.Core(s)
			lists := []*[]api.Point{&c.Points, &c.Axes, &c.Edges}
			*lists[i] = grown(*lists[i])
			for j, l := range [][]api.Point{want.Points, want.Axes, want.Edges} {
				if j != i && !slices.Equal(*lists[j], l) {
					t.Errorf("%v: list %d changed with %d", s, j, i)
				}
			}
			if !reflect.DeepEqual(other, want) {
				t.Errorf("%v: %v, not %v", s, other, want)
			}
		}
		if s.Kind == api.Hull && !slices.Equal(s.Points, round()) {
			t.Error("what was handed in is changed:", s.Points)
		}
	}
}

// TestHandedIn: nothing is written into the points, nor behind them, nor are they
// kept.
func TestHandedIn(t *testing.T) {
	room := append(round(), p(77, 77, 77))
	s := hull(0, room[:11]...)
	shape.Check(s)
	shape.Mass(s, one)
	c, _ := shape.Core(s)
	if !slices.Equal(room, append(round(), p(77, 77, 77))) {
		t.Error(room)
	}
	want, _ := shape.Core(hull(0, round()[:11]...))
	clear(room)
	if !reflect.DeepEqual(c, want) {
		t.Errorf("%v, not %v", c, want)
	}
}

func TestExamples(t *testing.T) {
	short(t, p(6, -4, 0), p(3, -2, 0))
	short(t, p(1<<21+1, 0, 1), p(1, 0, 0))
	refused(t, ball(0), api.ErrShapeForm)
	c, _ := shape.Core(brick(0, 1, 2, 3))
	if c.Points[0] != p(-1, -2, -3) || c.Points[7] != p(1, 2, 3) {
		t.Error(c)
	}
	c, _ = shape.Core(hull(0, list(0, 0, 0, 4, 0, 0, 0, 4, 0, 0, 0, 4)...))
	if !slices.Equal(c.Axes, list(0, 0, -1, 0, -1, 0, -1, 0, 0, 1, 1, 1)) {
		t.Error(c)
	}
	refused(t, hull(0, list(0, 0, 0, 1, 0, 0, 0, 1, 0, 1, 1, 0)...), api.ErrShapeFlat)
	mass(t, ball(4096), one, v(1717986918, 1717986918, 1717986918))
}
