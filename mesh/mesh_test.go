package mesh_test

import (
	"math"
	"slices"
	"testing"

	"tumbler/api"
	"tumbler/mesh"
)

const far = 1 << 20 // the greatest size of a point's part

func p(x, y, z int) api.Point { return api.Point{X: x, Y: y, Z: z} }

func box(a, b, c, x, y, z int) api.Box { return api.Box{Min: p(a, b, c), Max: p(x, y, z)} }

// list is the points of these numbers, three by three.
func list(parts ...int) []api.Point {
	var l []api.Point
	for i := 0; i+2 < len(parts); i += 3 {
		l = append(l, p(parts[i], parts[i+1], parts[i+2]))
	}
	return l
}

// threes are the triangles of these places.
func threes(places ...int) [][3]int {
	var l [][3]int
	for i := 0; i+2 < len(places); i += 3 {
		l = append(l, [3]int(places[i:]))
	}
	return l
}

func made(t *testing.T, points []api.Point, tris [][3]int) *mesh.Mesh {
	t.Helper()
	m, e := mesh.New(points, tris)
	if m == nil || e != api.OK {
		t.Fatalf("New %v %v: %v %d", points, tris, m, e)
	}
	if m.Len() != len(tris) {
		t.Errorf("New %v %v: Len %d", points, tris, m.Len())
	}
	return m
}

func refused(t *testing.T, points []api.Point, tris [][3]int) {
	t.Helper()
	if m, e := mesh.New(points, tris); m != nil || e != api.ErrMeshForm {
		t.Errorf("New %v %v: %v %d", points, tris, m, e)
	}
}

func field(t *testing.T, wide, deep, step int, heights []int) *mesh.Mesh {
	t.Helper()
	m, e := mesh.Field(wide, deep, step, heights)
	if m == nil || e != api.OK {
		t.Fatalf("Field %d %d %d %v: %v %d", wide, deep, step, heights, m, e)
	}
	return m
}

func fieldRefused(t *testing.T, wide, deep, step int, heights []int) {
	t.Helper()
	if m, e := mesh.Field(wide, deep, step, heights); m != nil || e != api.ErrMeshForm {
		t.Errorf("Field %d %d %d %v: %v %d", wide, deep, step, heights, m, e)
	}
}

func alike(c, d api.Core) bool {
	return slices.Equal(c.Points, d.Points) && slices.Equal(c.Axes, d.Axes) && slices.Equal(c.Edges, d.Edges) && c.Radius == d.Radius
}

func finds(t *testing.T, m *mesh.Mesh, b api.Box, want ...int) {
	t.Helper()
	if got := m.Find(b); !slices.Equal(got, want) {
		t.Errorf("Find %v: %v, not %v", b, got, want)
	}
}

// into are the points with n in one of their parts, and rest in the others.
func into(n, rest int) []api.Point {
	return []api.Point{p(n, rest, rest), p(rest, n, rest), p(rest, rest, n)}
}

func tooGreat() []int {
	return []int{far + 1, -far - 1, 2 * far, 1 << 32, -1 << 32, 1 << 61, -1 << 61, 1 << 62, math.MaxInt, math.MinInt, math.MinInt + 1}
}

// bowl are so many points of which no three lie on one line.
func bowl(many int) []api.Point {
	var l []api.Point
	for i := range many {
		l = append(l, p(i, i*i, 7))
	}
	return l
}

func TestM1PointsMany(t *testing.T) {
	refused(t, nil, threes(0, 1, 2))
	refused(t, nil, nil)
	for n := range 3 {
		refused(t, bowl(n), threes(0, 1, 2))
		refused(t, bowl(n), threes(0, 0, 0))
	}
	for _, n := range []int{3, 4, 127, 128} {
		made(t, bowl(n), threes(0, 1, 2))
		made(t, bowl(n), threes(n-1, n-2, n-3))
	}
	for _, n := range []int{129, 130, 1000} {
		refused(t, bowl(n), threes(0, 1, 2))
	}
}

// TestM1PointsSize has great parts in points that a triangle has, and in one that
// none has.
func TestM1PointsSize(t *testing.T) {
	for _, n := range []int{far, -far, far - 1, 1 - far} {
		for _, q := range into(n, 3) {
			for i := range 4 {
				l := list(0, 0, 0, 1, 2, 5, 2, 1, 3, 9, 9, 9)
				l[i] = q
				made(t, l, threes(0, 1, 2))
			}
		}
	}
	made(t, list(far, -far, far, -far, far, far, far, far, -far), threes(0, 1, 2))
	for _, n := range tooGreat() {
		for _, q := range into(n, 3) {
			for i := range 4 {
				l := list(0, 0, 0, 1, 2, 5, 2, 1, 3, 9, 9, 9)
				l[i] = q
				refused(t, l, threes(0, 1, 2))
			}
		}
	}
}

// TestM1PointsAlike: points may be alike, as long as no triangle has two of them.
func TestM1PointsAlike(t *testing.T) {
	l := list(0, 0, 0, 4, 0, 0, 0, 4, 0, 0, 0, 0, 4, 0, 0, 0, 4, 0)
	m := made(t, l, threes(0, 1, 2, 3, 4, 5))
	for side := range 3 {
		if m.Next(0, side) != -1 || m.Next(1, side) != -1 {
			t.Error("a side is of places, not of what stands there:", side)
		}
	}
	refused(t, l, threes(0, 1, 2, 3, 4, 1))
	refused(t, l, threes(0, 3, 2))
}

// strip are triangles of a grid with ten points a row, so many as are asked, up to
// 144.
func strip(many int) ([]api.Point, [][3]int) {
	var l []api.Point
	var tris [][3]int
	for i := range 90 {
		l = append(l, p(i%10, 0, i/10))
	}
	for z := range 8 {
		for x := range 9 {
			a := 10*z + x
			tris = append(tris, threes(a, a+10, a+1, a+1, a+10, a+11)...)
		}
	}
	return l, tris[:many]
}

func TestM1TrisMany(t *testing.T) {
	refused(t, bowl(5), nil)
	refused(t, bowl(5), [][3]int{})
	for _, n := range []int{1, 2, 127, 128} {
		made(t, first(strip(n)), second(strip(n)))
	}
	for _, n := range []int{129, 130, 144} {
		refused(t, first(strip(n)), second(strip(n)))
	}
}

func first(l []api.Point, _ [][3]int) []api.Point { return l }

func second(_ []api.Point, tris [][3]int) [][3]int { return tris }

// TestM1Places: a wrong place is seen wherever it stands, in whichever triangle.
func TestM1Places(t *testing.T) {
	l := bowl(12)
	good := threes(0, 1, 2, 3, 4, 5, 6, 7, 8)
	made(t, l, good)
	for _, place := range []int{-1, 12, 13, -12, 128, 1 << 32, -1 << 32, math.MaxInt, math.MinInt} {
		for n := range 3 {
			for i := range 3 {
				wrong := slices.Clone(good)
				wrong[n][i] = place
				refused(t, l, wrong)
			}
		}
	}
	for n := range 3 {
		for i := range 3 {
			right, wrong := slices.Clone(good), slices.Clone(good)
			right[n][i] = 11
			made(t, l, right)
			wrong[n][i] = wrong[n][(i+1)%3]
			refused(t, l, wrong)
		}
		wrong := slices.Clone(good)
		wrong[n] = [3]int{10, 10, 10}
		refused(t, l, wrong)
	}
}

func TestM1OneLine(t *testing.T) {
	for _, l := range [][]api.Point{
		list(0, 0, 0, 1, 0, 0, 2, 0, 0),
		list(0, 0, 0, 0, 1, 0, 0, -5, 0),
		list(0, 0, 9, 0, 0, 1, 0, 0, 4),
		list(1, 2, 3, 2, 4, 6, 3, 6, 9),
		list(1, 1, 1, 4, 3, 0, -5, -3, 3),
		list(5, 5, 5, 5, 5, 5, 5, 5, 5),
		list(5, 5, 5, 5, 5, 5, 9, 1, 7),
		list(5, 5, 5, 9, 1, 7, 5, 5, 5),
		list(9, 1, 7, 5, 5, 5, 5, 5, 5),
		list(-far, -far, -far, 0, 0, 0, far, far, far),
		list(-far, far, -far, far, -far, far, far-1, 1-far, far-1),
		list(far, 0, -far, -far, 0, far, 0, 0, 0),
	} {
		refused(t, l, threes(0, 1, 2))
		refused(t, l, threes(2, 1, 0))
		more := append(slices.Clone(l), list(0, 1, 0, 1, 0, 5, 7, 7, 1)...)
		made(t, more, threes(3, 4, 5))
		refused(t, more, threes(3, 4, 5, 0, 1, 2))
		refused(t, more, threes(1, 2, 0, 3, 4, 5))
	}
	for _, l := range [][]api.Point{ // one part of the product is not nought, and is as little or as great as can be
		list(0, 0, 0, far, far-1, 0, far-1, far-2, 0),
		list(0, 0, 0, 0, far, far-1, 0, far-1, far-2),
		list(0, 0, 0, far-1, 0, far, far-2, 0, far-1),
		list(-far, -far, 0, far, -far, 0, -far, far, 0),
		list(0, -far, -far, 0, -far, far, 0, far, -far),
		list(-far, 0, far, far, 0, far, -far, 0, -far),
	} {
		made(t, l, threes(0, 1, 2))
		made(t, l, threes(0, 2, 1))
	}
}

// TestM1Sides: each side of one triangle against each one of another.
func TestM1Sides(t *testing.T) {
	l := bowl(7)
	good := threes(4, 5, 6, 0, 1, 2)
	for i := range 3 {
		for j := range 3 {
			from, to := good[1][i], good[1][(i+1)%3]
			same, back := slices.Clone(good), slices.Clone(good)
			var a, b [3]int
			a[j], a[(j+1)%3], a[(j+2)%3] = from, to, 3
			b[j], b[(j+1)%3], b[(j+2)%3] = to, from, 3
			refused(t, l, append(same, a))
			refused(t, l, append([][3]int{a}, good...))
			m := made(t, l, append(back, b))
			if m.Next(1, i) != 2 || m.Next(2, j) != 1 {
				t.Error(i, j, m.Next(1, i), m.Next(2, j))
			}
		}
	}
	refused(t, l, threes(0, 1, 2, 0, 1, 2))
	refused(t, l, threes(0, 1, 2, 2, 0, 1))
	refused(t, l, threes(0, 1, 2, 0, 2, 1, 1, 0, 2))
	m := made(t, l, threes(0, 1, 2, 0, 2, 1)) // back to back
	for side := range 3 {
		if m.Next(0, side) != 1 || m.Next(1, side) != 0 {
			t.Error(side, m.Next(0, side), m.Next(1, side))
		}
	}
	made(t, l, threes(0, 1, 2, 3, 1, 4, 5, 1, 6)) // a place may be of many triangles
}

func TestM2MayBe(t *testing.T) {
	for _, x := range [][3]int{{2, 2, 1}, {9, 9, 1}, {2, 9, 1 << 16}, {9, 2, 1 << 16}, {9, 9, 1 << 16}, {3, 4, 1<<16 - 1}} {
		m := field(t, x[0], x[1], x[2], make([]int, x[0]*x[1]))
		if m.Len() != 2*(x[0]-1)*(x[1]-1) {
			t.Error(x, m.Len())
		}
		if want := box(0, 0, 0, (x[0]-1)*x[2], 0, (x[1]-1)*x[2]); m.Span() != want {
			t.Error(x, m.Span())
		}
	}
	for _, wrong := range []int{1, 10, 0, -1, -2, -9, 16, 1 << 31, 1 << 32, 1 << 61, 1 << 62, math.MaxInt, math.MinInt} {
		for _, right := range []int{2, 4, 9} {
			for _, many := range []int{0, right, max(0, min(wrong, 99)) * right} { // 2^62 * 4 wraps to 0
				fieldRefused(t, wrong, right, 1, make([]int, many))
				fieldRefused(t, right, wrong, 1, make([]int, many))
			}
		}
		fieldRefused(t, wrong, wrong, 1, make([]int, max(0, min(wrong, 99))*max(0, min(wrong, 99))))
	}
	fieldRefused(t, -2, -2, 1, make([]int, 4))
	for _, step := range []int{0, -1, 1<<16 + 1, -1 << 16, 1 << 17, 1 << 32, 1 << 62, math.MaxInt, math.MinInt} {
		fieldRefused(t, 2, 2, step, make([]int, 4))
		fieldRefused(t, 9, 9, step, make([]int, 81))
	}
	for wide := 2; wide <= 9; wide++ {
		for deep := 2; deep <= 9; deep++ {
			for _, more := range []int{-wide * deep, -wide, -1, 1, wide, 81} {
				fieldRefused(t, wide, deep, 3, make([]int, wide*deep+more))
			}
			fieldRefused(t, wide, deep, 3, nil)
		}
	}
}

func TestM2Heights(t *testing.T) {
	for i := range 6 {
		for _, n := range []int{far, -far, far - 1, 1 - far} {
			l := []int{1, 2, 3, 4, 5, 6}
			l[i] = n
			field(t, 3, 2, 1, l)
		}
		for _, n := range tooGreat() {
			l := []int{1, 2, 3, 4, 5, 6}
			l[i] = n
			fieldRefused(t, 3, 2, 1, l)
		}
	}
}

// TestM2Triangles goes through each square of each field.
func TestM2Triangles(t *testing.T) {
	for wide := 2; wide <= 9; wide++ {
		for deep := 2; deep <= 9; deep++ {
			for _, step := range []int{1, 7, 1 << 16} {
				var heights []int
				for i := range wide * deep {
					heights = append(heights, i*i-50*i)
				}
				m := field(t, wide, deep, step, heights)
				at := func(x, z int) api.Point { return p(x*step, heights[z*wide+x], z*step) }
				n := 0
				for z := 0; z <= deep-2; z++ {
					for x := 0; x <= wide-2; x++ {
						for _, want := range [][]api.Point{
							{at(x, z), at(x, z+1), at(x+1, z)},
							{at(x+1, z), at(x, z+1), at(x+1, z+1)},
						} {
							if c, is := m.Tri(n); !is || !slices.Equal(c.Points, want) {
								t.Fatal(wide, deep, step, n, c, want)
							}
							n++
						}
					}
				}
				if m.Len() != n {
					t.Error(wide, deep, m.Len())
				}
			}
		}
	}
}

// TestM2Next: in a field a triangle's neighbours are the other half of its square,
// and halves of the squares beside it.
func TestM2Next(t *testing.T) {
	m := field(t, 4, 3, 5, make([]int, 12))
	for i, want := range [][3]int{
		{-1, 1, -1}, {0, 6, 2}, {1, 3, -1}, {2, 8, 4}, {3, 5, -1}, {4, 10, -1},
		{-1, 7, 1}, {6, -1, 8}, {7, 9, 3}, {8, -1, 10}, {9, 11, 5}, {10, -1, -1},
	} {
		if got := [3]int{m.Next(i, 0), m.Next(i, 1), m.Next(i, 2)}; got != want {
			t.Error(i, got, want)
		}
	}
}

func TestM3Tri(t *testing.T) {
	for _, x := range []struct{ points, axes, edges []api.Point }{
		{list(0, 0, 0, 0, 0, 4, 4, 0, 0), list(0, 1, 0), list(0, 0, 1, 1, 0, -1, -1, 0, 0)},
		{list(4, 0, 0, 0, 0, 4, 0, 0, 0), list(0, -1, 0), list(-1, 0, 1, 0, 0, -1, 1, 0, 0)},
		{list(1, 1, 1, 7, 1, 1, 1, 5, 1), list(0, 0, 1), list(1, 0, 0, -3, 2, 0, 0, -1, 0)},
		{list(3, 0, 0, 3, 9, 0, 3, 0, 6), list(1, 0, 0), list(0, 1, 0, 0, -3, 2, 0, 0, -1)},
		{list(2, 0, 0, 0, 2, 0, 0, 0, 2), list(1, 1, 1), list(-1, 1, 0, 0, -1, 1, 1, 0, -1)},
		{list(0, 0, 0, 6, 2, 4, 3, 9, 1), list(-17, 3, 24), list(3, 1, 2, -3, 7, -3, -3, -9, -1)},
		// a product of 2^42, sides of 2^21
		{list(-far, 5, -far, -far, 5, far, far, 5, -far), list(0, 1, 0), list(0, 0, 1, 1, 0, -1, -1, 0, 0)},
		{list(far, -far, far, far, far, -far, -far, far, far), list(1, 1, 1), list(0, 1, -1, -1, 0, 1, 1, -1, 0)},
		// the sides (2^21 2^21-1 0) and (-2^21 4-2^21 1) are halved once, to nought, the product (2^21-1 -2^21 3*2^21) thrice
		{list(-far, -far, 0, far, far-1, 0, -far, 3-far, 1), list(1<<18-1, -1<<18, 3<<18), list(far, far-1, 0, -1<<19, 1-1<<19, 0, 0, -3, -1)},
	} {
		m := made(t, x.points, threes(0, 1, 2))
		got, is := m.Tri(0)
		if want := (api.Core{Points: x.points, Axes: x.axes, Edges: x.edges}); !is || !alike(got, want) {
			t.Errorf("Tri of %v: %v %v, not %v", x.points, got, is, want)
		}
	}
}

// TestM3TriOrder: a core's points stand as the triangle names them, not as the list
// does.
func TestM3TriOrder(t *testing.T) {
	l := bowl(5)
	tris := threes(3, 0, 4, 0, 3, 2, 4, 2, 1)
	m := made(t, l, tris)
	for n, x := range tris {
		want := []api.Point{l[x[0]], l[x[1]], l[x[2]]}
		if c, is := m.Tri(n); !is || !slices.Equal(c.Points, want) || len(c.Axes) != 1 || len(c.Edges) != 3 || c.Radius != 0 {
			t.Error(n, c, is)
		}
	}
}

func noTris() []int {
	return []int{-1, -2, -3, 1 << 31, 1 << 32, -1 << 32, 1 << 62, math.MaxInt, math.MinInt}
}

func TestM3None(t *testing.T) {
	for _, many := range []int{1, 2, 128} {
		m := made(t, first(strip(many)), second(strip(many)))
		for _, n := range append(noTris(), many, many+1, 2*many, 129) {
			if c, is := m.Tri(n); is || !alike(c, api.Core{}) {
				t.Error(many, n, c, is)
			}
			for side := range 3 {
				if next := m.Next(n, side); next != -1 {
					t.Error(many, n, side, next)
				}
			}
		}
		if _, is := m.Tri(many - 1); !is {
			t.Error(many)
		}
	}
}

func TestM3NoSide(t *testing.T) {
	l := bowl(4)
	m := made(t, l, threes(0, 1, 2, 0, 2, 1))
	for _, side := range append(noTris(), 3, 4, 5, 6) {
		for n := range 2 {
			if next := m.Next(n, side); next != -1 {
				t.Error(n, side, next)
			}
		}
	}
}

// TestM3NextFar: neighbours are found wherever they stand in the list; a body that
// is closed has one at each side.
func TestM3NextFar(t *testing.T) {
	m := made(t, list(0, 0, 0, 4, 0, 0, 0, 4, 0, 0, 0, 4), threes(0, 2, 1, 0, 1, 3, 1, 2, 3, 2, 0, 3))
	for n, want := range [][3]int{{3, 2, 1}, {0, 2, 3}, {0, 3, 1}, {0, 1, 2}} {
		if got := [3]int{m.Next(n, 0), m.Next(n, 1), m.Next(n, 2)}; got != want {
			t.Error(n, got, want)
		}
	}
}

func TestM4Find(t *testing.T) {
	m := made(t, list(0, 0, 0, 10, 20, 30, 0, 20, 30, 50, 0, 0, 60, 5, 5, 50, 5, 0), threes(3, 4, 5, 0, 1, 2))
	// the boxes: (50 0 0)-(60 5 5), (0 0 0)-(10 20 30)
	finds(t, m, box(0, 0, 0, 10, 20, 30), 1)
	finds(t, m, box(10, 5, 5, 50, 5, 5), 0, 1)
	finds(t, m, box(11, 5, 5, 50, 5, 5), 0)
	finds(t, m, box(10, 5, 5, 49, 5, 5), 1)
	finds(t, m, box(11, 5, 5, 49, 5, 5))
	for _, x := range []struct {
		b  api.Box
		is bool
	}{ // each of the box's six ends, just met and just not
		{box(-9, -9, -9, 0, 99, 99), true}, {box(-9, -9, -9, -1, 99, 99), false},
		{box(-9, -9, -9, 9, 0, 99), true}, {box(-9, -9, -9, 9, -1, 99), false},
		{box(-9, -9, -9, 9, 99, 0), true}, {box(-9, -9, -9, 9, 99, -1), false},
		{box(10, -9, -9, 20, 99, 99), true}, {box(11, -9, -9, 20, 99, 99), false},
		{box(-9, 20, -9, 9, 99, 99), true}, {box(-9, 21, -9, 9, 99, 99), false},
		{box(-9, -9, 30, 9, 99, 99), true}, {box(-9, -9, 31, 9, 99, 99), false},
		{box(4, 6, 8, 4, 6, 8), true},         // within
		{box(10, 20, 0, 10, 20, 0), true},     // a corner of the box, far from the triangle
		{box(9, -99, -99, 3, 99, 99), true},   // Min above Max: still within the triangle's
		{box(11, -99, -99, 3, 99, 99), false}, // Min beyond it
		{box(3, -99, -99, -1, 99, 99), false}, // Max ahead of it
		{box(10, 20, 30, 0, 0, 0), true},      // turned inside out
		{box(10, 20, 30, 0, 0, -1), false},    // and further
		{box(far, far, far, far, far, far), false},
	} {
		if x.is {
			finds(t, m, x.b, 1)
		} else {
			finds(t, m, x.b)
		}
	}
	const low, high = math.MinInt, math.MaxInt
	finds(t, m, box(low, low, low, high, high, high), 0, 1)
	finds(t, m, box(high, high, high, low, low, low))
	finds(t, m, box(low, low, low, low, low, low))
	finds(t, m, box(high, high, high, high, high, high))
	finds(t, m, box(low, 0, 0, high, 0, 0), 0, 1)
	finds(t, m, api.Box{}, 1)
}

// TestM4FindAll: of as many triangles as may be each one is found, rising, in
// whichever order they stand.
func TestM4FindAll(t *testing.T) {
	l, tris := strip(128)
	for _, mix := range []int{1, 5, 37, 77, 127} {
		mixed := make([][3]int, len(tris))
		for i, x := range tris {
			mixed[i*mix%128] = x
		}
		m := made(t, l, mixed)
		all := m.Find(box(-far, -far, -far, far, far, far))
		if len(all) != 128 || !slices.IsSorted(all) || all[0] != 0 || all[127] != 127 {
			t.Error(mix, all)
		}
		for i, x := range mixed {
			a, b, c := l[x[0]], l[x[1]], l[x[2]]
			own := box(min(a.X, b.X, c.X), 0, min(a.Z, b.Z, c.Z), max(a.X, b.X, c.X), 0, max(a.Z, b.Z, c.Z))
			if got := m.Find(own); !slices.Contains(got, i) || !slices.IsSorted(got) || len(got) > 18 { // nine squares around
				t.Error(mix, i, got)
			}
		}
	}
}

// TestM4FindAlike: triangles of one and the same box are all found.
func TestM4FindAlike(t *testing.T) {
	var l []api.Point
	var tris [][3]int
	var all []int
	for i := range 40 {
		l = append(l, list(1, 1, 1, 5, 1, 1, 1, 5, 1)...)
		tris = append(tris, [3]int{3 * i, 3*i + 1, 3*i + 2})
		all = append(all, i)
	}
	m := made(t, l, tris)
	finds(t, m, box(5, 5, 1, 9, 9, 9), all...)
	finds(t, m, box(5, 5, 2, 9, 9, 9))
	finds(t, m, m.Span(), all...)
}

func TestM4Span(t *testing.T) {
	for _, x := range []struct {
		points []api.Point
		tris   [][3]int
		want   api.Box
	}{
		{list(1, 5, 9, 4, 8, 3, 7, 2, 6), threes(0, 1, 2), box(1, 2, 3, 7, 8, 9)},
		{list(-1, -5, -9, -4, -8, -3, -7, -2, -6), threes(2, 0, 1), box(-7, -8, -9, -1, -2, -3)},
		{list(0, 0, 0, 4, 0, 0, 0, 4, 0, 99, 99, 99, -99, -99, -99), threes(0, 1, 2), box(0, 0, 0, 4, 4, 0)}, // points that no triangle has
		{list(0, 0, 0, 4, 0, 0, 0, 4, 0, 50, 60, 70, 50, 61, 70, 50, 60, 72), threes(0, 1, 2, 3, 4, 5), box(0, 0, 0, 50, 61, 72)},
		{list(far, far, far, -far, 0, 0, 0, -far, -far), threes(0, 1, 2), box(-far, -far, -far, far, far, far)},
		{list(7, 7, 7, 8, 7, 7, 7, 8, 7), threes(0, 1, 2), box(7, 7, 7, 8, 8, 7)}, // nought is not within
	} {
		if got := made(t, x.points, x.tris).Span(); got != x.want {
			t.Errorf("Span %v %v: %v, not %v", x.points, x.tris, got, x.want)
		}
	}
}

func TestExamples(t *testing.T) {
	l := list(0, 0, 0, 0, 0, 4, 4, 0, 0)
	m := made(t, l, threes(0, 1, 2))
	if c, is := m.Tri(0); !is || !slices.Equal(c.Axes, list(0, 1, 0)) {
		t.Error(c, is)
	}
	if n := m.Next(0, 0); n != -1 {
		t.Error(n)
	}
	finds(t, m, box(5, 0, 0, 5, 0, 0))
	l = append(l, p(4, 0, 4))
	m = made(t, l, threes(0, 1, 2, 2, 1, 3))
	if m.Next(0, 1) != 1 || m.Next(1, 0) != 0 {
		t.Error(m.Next(0, 1), m.Next(1, 0))
	}
	refused(t, l, threes(0, 1, 2, 1, 2, 3))
}
