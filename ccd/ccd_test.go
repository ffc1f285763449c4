package ccd_test

import (
	"math"
	"slices"
	"testing"

	"tumbler/api"
	"tumbler/ccd"
	"tumbler/fx"
	"tumbler/mesh"
	"tumbler/pose"
	"tumbler/shape"
)

const g = api.Grain

func p(x, y, z int) api.Point { return api.Point{X: x, Y: y, Z: z} }

// v is a place of whole grains.
func v(x, y, z int) api.Vec { return api.Vec{X: x * g, Y: y * g, Z: z * g} }

// with is the place with so many FX more.
func with(at api.Vec, x, y, z int) api.Vec { return api.Vec{X: at.X + x, Y: at.Y + y, Z: at.Z + z} }

func ball(radius, x, y, z int) api.Core {
	return api.Core{Points: []api.Point{p(x, y, z)}, Radius: radius}
}

func brick(t *testing.T, half, at api.Point) api.Core {
	t.Helper()
	c, e := shape.Core(api.Shape{Kind: api.Brick, Half: half})
	if e != api.OK {
		t.Fatal(half, e)
	}
	return pose.Moved(c, at)
}

func triangle(t *testing.T, a, b, c api.Point) api.Core {
	t.Helper()
	m, e := mesh.New([]api.Point{a, b, c}, [][3]int{{0, 1, 2}})
	if e != api.OK {
		t.Fatal(a, b, c, e)
	}
	tri, _ := m.Tri(0)
	return tri
}

// holds asks on a new work and on one that was Bad ahead: neither flag is to change,
// and the second one is to bear on nothing.
func holds(t *testing.T, from, to api.Vec, radius int, fixed []api.Core, want api.Vec, part int) {
	t.Helper()
	for _, bad := range []bool{false, true} {
		w := &fx.Work{Bad: bad}
		if at, k := ccd.Hold(w, from, to, radius, fixed); at != want || k != part || w.Bad != bad {
			t.Errorf("Hold %v %v %d %v: %v %d %v, not %v %d %v", from, to, radius, fixed, at, k, w.Bad, want, part, bad)
		}
	}
}

// passes: nothing holds the ball.
func passes(t *testing.T, from, to api.Vec, radius int, fixed ...api.Core) {
	t.Helper()
	holds(t, from, to, radius, fixed, to, 16)
}

func TestExample(t *testing.T) {
	holds(t, v(0, 0, 0), v(32, 0, 0), 2, []api.Core{ball(2, 20, 0, 0)}, v(16, 0, 0), 8)
	passes(t, v(0, 0, 0), v(32, 0, 0), 2, ball(2, 3, 0, 0))
}

func TestH1Nothing(t *testing.T) {
	for _, to := range []api.Vec{{}, v(32, 0, 0), v(-5, 7, 9), {X: 1}, {Z: -1}, with(v(3, 4, 5), 77, -5, g-1)} {
		holds(t, v(1, 2, 3), to, 2, nil, to, 16)
		holds(t, v(1, 2, 3), to, 0, []api.Core{}, to, 16)
		passes(t, v(1, 2, 3), to, 2, ball(2, 100, 0, 0), ball(2, 0, 100, 0), ball(2, 0, 0, -100))
	}
}

// TestH1Parts: a wall that stands k and a half sixteenths ahead leaves k of them.
func TestH1Parts(t *testing.T) {
	for k := range 16 {
		ahead := 10*k + 5 + 4
		for _, side := range []int{1, -1} {
			for _, x := range []struct {
				way  api.Vec
				wall api.Core
			}{
				{v(160*side, 0, 0), ball(3, ahead*side, 0, 0)},
				{v(0, 160*side, 0), ball(3, 0, ahead*side, 0)},
				{v(0, 0, 160*side), ball(3, 0, 0, ahead*side)},
				{v(160*side, 160*side, 0), brick(t, p(1000, 3, 1000), p(0, ahead*side, 0))},
			} {
				want := api.Vec{X: x.way.X / 16 * k, Y: x.way.Y / 16 * k, Z: x.way.Z / 16 * k}
				holds(t, api.Vec{}, x.way, 1, []api.Core{x.wall}, want, k)
			}
		}
	}
	passes(t, api.Vec{}, v(160, 0, 0), 1, ball(3, 164, 0, 0))
	holds(t, api.Vec{}, v(160, 0, 0), 1, []api.Core{ball(3, 163, 0, 0)}, v(150, 0, 0), 15)
}

// TestH1Least: it is the nearest one that holds, wherever it stands in the list.
func TestH1Least(t *testing.T) {
	far, mid, near, in, aside := ball(2, 36, 0, 0), ball(2, 20, 0, 0), ball(2, 12, 0, 0), ball(2, 3, 0, 0), ball(2, 16, 9, 0)
	from, to := v(0, 0, 0), v(32, 0, 0)
	passes(t, from, to, 2, far, in, aside, api.Core{})
	for _, l := range [][]api.Core{{mid}, {mid, mid}, {far, mid}, {mid, far}, {in, mid}, {mid, in}, {aside, mid, {}, in}, {{}, mid}, {mid, {}}} {
		holds(t, from, to, 2, l, v(16, 0, 0), 8)
	}
	for _, l := range [][]api.Core{{near, mid}, {mid, near}, {far, mid, in, near, aside}, {near, in, mid, far}, {mid, near, mid}} {
		holds(t, from, to, 2, l, v(8, 0, 0), 4)
	}
}

// TestH1In: who is in a wall is not held by it, however deep; who only touches it is,
// if he goes into it, and not if he goes away or along it.
func TestH1In(t *testing.T) {
	from := v(0, 0, 0)
	for x := -3; x <= 3; x++ {
		passes(t, from, v(32, 0, 0), 2, ball(2, x, 0, 0))
		passes(t, from, v(-32, 0, 0), 2, ball(2, x, 0, 0))
		passes(t, from, v(0, 32, 0), 2, ball(2, x, 0, 0))
	}
	holds(t, from, v(32, 0, 0), 2, []api.Core{ball(2, 4, 0, 0)}, from, 0)
	passes(t, from, v(-32, 0, 0), 2, ball(2, 4, 0, 0))
	passes(t, from, v(0, 0, 32), 2, ball(2, 4, 0, 0))
	passes(t, from, v(0, 0, 0), 2, ball(2, 4, 0, 0))
	holds(t, from, v(32, 0, 0), 2, []api.Core{ball(2, 5, 0, 0)}, from, 0)
	holds(t, from, v(32, 0, 0), 2, []api.Core{ball(2, 6, 0, 0)}, v(2, 0, 0), 1)
	// In one of two, ahead of the other one.
	holds(t, from, v(32, 0, 0), 2, []api.Core{ball(2, 3, 0, 0), ball(2, 4, 0, 0)}, from, 0)
	holds(t, from, v(32, 0, 0), 2, []api.Core{ball(2, 0, 0, 0), ball(2, 21, 0, 0)}, v(16, 0, 0), 8)
	// Less than a grain tells which grain it stands in.
	holds(t, with(from, g-1, 0, 0), v(32, 0, 0), 2, []api.Core{ball(2, 4, 0, 0)}, with(from, g-1, 0, 0), 0)
	passes(t, with(from, g, 0, 0), v(32, 0, 0), 2, ball(2, 4, 0, 0))
	holds(t, with(from, -1, 0, 0), v(32, 0, 0), 2, []api.Core{ball(2, 3, 0, 0)}, with(from, -1, 0, 0), 0)
	holds(t, with(from, -g, 0, 0), v(32, 0, 0), 2, []api.Core{ball(2, 3, 0, 0)}, with(from, -g, 0, 0), 0)
}

// TestH1Place: the place is of FX, each part rounded down by itself.
func TestH1Place(t *testing.T) {
	wall := []api.Core{ball(2, 20, 0, 0)}
	holds(t, api.Vec{X: 5}, with(v(32, 0, 0), 9, 0, 0), 2, wall, with(v(16, 0, 0), 7, 0, 0), 8)
	holds(t, api.Vec{X: 5}, with(v(32, 0, 0), 10, 0, 0), 2, wall, with(v(16, 0, 0), 7, 0, 0), 8)
	holds(t, api.Vec{X: 5}, with(v(32, 0, 0), 11, 0, 0), 2, wall, with(v(16, 0, 0), 8, 0, 0), 8)
	holds(t, api.Vec{X: 9}, with(v(32, 0, 0), 4, 0, 0), 2, wall, with(v(16, 0, 0), 6, 0, 0), 8)
	holds(t, api.Vec{X: 0, Y: 1, Z: 2}, with(v(32, 0, 0), 1, 2, 3), 2, wall, with(v(16, 0, 0), 0, 1, 2), 8)
	holds(t, api.Vec{X: 3, Y: 3, Z: 9}, with(v(32, 0, 0), 2, 0, 2), 2, wall, with(v(16, 0, 0), 2, 1, 5), 8)
	// A way of 31 grains: 20 by 16 is not whole.
	holds(t, api.Vec{}, v(31, 0, 0), 2, wall, api.Vec{X: 31 * g / 2}, 8)
	holds(t, api.Vec{}, with(v(31, 0, 0), 1, 0, 0), 2, wall, api.Vec{X: 31 * g / 2}, 8)
	holds(t, api.Vec{}, with(v(32, 0, 0), -1, 0, 0), 2, wall, with(v(16, 0, 0), -1, 0, 0), 8)
	holds(t, api.Vec{}, v(-31, 0, 0), 2, []api.Core{ball(2, -20, 0, 0)}, api.Vec{X: -31 * g / 2}, 8)
	holds(t, api.Vec{}, with(v(-32, 0, 0), 1, 0, 0), 2, []api.Core{ball(2, -20, 0, 0)}, v(-16, 0, 0), 8)
	holds(t, api.Vec{}, with(v(-32, 0, 0), 3, 0, 0), 2, []api.Core{ball(2, -20, 0, 0)}, with(v(-16, 0, 0), 1, 0, 0), 8)
	for k := 1; k < 16; k++ {
		holds(t, api.Vec{}, with(v(160, 0, 0), 0, 1, -1), 1, []api.Core{ball(3, 10*k+9, 0, 0)}, with(v(10*k, 0, 0), 0, 0, -1), k)
		holds(t, api.Vec{Y: 9, Z: -9}, with(v(160, 0, 0), 0, 9+15, -9-15), 1, []api.Core{ball(3, 10*k+9, 0, -1)},
			with(v(10*k, 0, 0), 0, 9+15*k/16, -9-(15*k+15)/16), k)
	}
}

func TestH1Radius(t *testing.T) {
	from, to := v(0, 0, 0), v(32, 0, 0)
	for _, r := range []int{-1, -2, math.MinInt, -1 << 16, 1<<16 + 1, 1 << 17, 1 << 32, 1 << 62, math.MaxInt} {
		passes(t, from, to, r, ball(2, 20, 0, 0))
	}
	for r, part := range []int{9, 8, 8, 7, 7, 6} { // of Radius 0 and on
		holds(t, from, to, r, []api.Core{ball(2, 20, 0, 0)}, v(2*part, 0, 0), part)
	}
	most := 1 << 16
	holds(t, from, to, most, []api.Core{ball(2, 18+most, 0, 0)}, v(16, 0, 0), 8)
	holds(t, from, to, most, []api.Core{ball(most, 16+2*most, 0, 0)}, v(16, 0, 0), 8)
	passes(t, from, to, most+1, ball(2, 19+most, 0, 0))
}

// turned are a place's parts in three orders.
func turned(x, y, z int) []api.Vec {
	return []api.Vec{{X: x, Y: y, Z: z}, {X: z, Y: x, Z: y}, {X: y, Y: z, Z: x}}
}

func turnedBall(radius, x, y, z int) []api.Core {
	return []api.Core{ball(radius, x, y, z), ball(radius, z, x, y), ball(radius, y, z, x)}
}

// TestH1Far: a place of up to 2^24 grains may be; and so must be where it would end.
func TestH1Far(t *testing.T) {
	edge := 1 << 24
	for i := range 3 {
		zero := turned(0, 0, 0)[i]
		for _, side := range []int{1, -1} {
			out := func(n int) api.Vec { return turned(side*(edge+n)*g, 0, 0)[i] }
			wall := func(n int) api.Core { return turnedBall(2, side*(edge+n), 0, 0)[i] }
			holds(t, out(0), out(-32), 2, []api.Core{wall(-20)}, out(-16), 8)
			passes(t, out(1), out(-31), 2, wall(-20))
			holds(t, out(-32), out(0), 2, []api.Core{wall(-12)}, out(-16), 8)
			passes(t, out(-32), out(1), 2, wall(-12))
			passes(t, out(-32), out(1), 2, wall(-28))
			passes(t, out(8), zero, 2, wall(-20))
		}
		// Down: beneath the least grain by one FX already, above the greatest by a grain.
		low, high := turned(-edge*g, 0, 0)[i], turned(edge*g+g-1, 0, 0)[i]
		one := turned(1, 0, 0)[i]
		in := turned(32*g, 0, 0)[i]
		holds(t, low, with(low, in.X, in.Y, in.Z), 2, turnedBall(2, 20-edge, 0, 0)[i:i+1], turned((16-edge)*g, 0, 0)[i], 8)
		passes(t, with(low, -one.X, -one.Y, -one.Z), with(low, in.X, in.Y, in.Z), 2, turnedBall(2, 20-edge, 0, 0)[i])
		holds(t, high, with(high, -in.X, -in.Y, -in.Z), 2, turnedBall(2, edge-20, 0, 0)[i:i+1], turned((edge-16)*g+g-1, 0, 0)[i], 8)
		passes(t, with(high, one.X, one.Y, one.Z), with(high, -in.X, -in.Y, -in.Z), 2, turnedBall(2, edge-20, 0, 0)[i])
	}
}

// TestH1Long: a way of up to 2^22 grains may be.
func TestH1Long(t *testing.T) {
	most := 1 << 22
	for i := range 3 {
		for _, side := range []int{1, -1} {
			to := func(n int) api.Vec { return turned(side*n*g, 0, 0)[i] }
			wall := turnedBall(2, side*most/2, 0, 0)[i : i+1]
			holds(t, api.Vec{}, to(most), 2, wall, to(7*most/16), 7)
			passes(t, api.Vec{}, to(most+1), 2, wall...)
			passes(t, to(-1), to(most), 2, wall...)
			holds(t, to(1), to(most+1), 2, wall, to(7*most/16+1), 7)
		}
		wall := turnedBall(2, most/2, 0, 0)[i : i+1]
		end := turned(most*g+g-1, 0, 0)[i]
		w := &fx.Work{}
		if _, part := ccd.Hold(w, api.Vec{}, end, 2, wall); part != 7 || w.Bad {
			t.Error(part)
		}
		passes(t, api.Vec{}, turned(most*g+g, 0, 0)[i], 2, wall...)
		if _, part := ccd.Hold(w, turned(g-1, 0, 0)[i], end, 2, wall); part != 7 || w.Bad {
			t.Error(part)
		}
		passes(t, turned(-1, 0, 0)[i], turned(most*g, 0, 0)[i], 2, wall...)
	}
}

// TestH1Beyond: parts of places that are too great for anything.
func TestH1Beyond(t *testing.T) {
	wall := []api.Core{ball(2, 20, 0, 0), ball(2, 0, 20, 0), ball(2, 0, 0, 20), ball(1<<16, 1<<24, 0, 0)}
	for _, n := range []int{1 << 50, 1<<50 + 1, 1 << 52, 1 << 53, 1 << 60, 1 << 61, api.Most, api.Most + 1, math.MaxInt - 7, math.MaxInt} {
		for i := range 3 {
			for _, far := range []api.Vec{turned(n, 0, 0)[i], turned(-n, 0, 0)[i], turned(-n-1, 0, 0)[i], turned(n, n, n)[i], turned(-n-1, n, 5)[i]} {
				passes(t, far, far, 2, wall...)
				passes(t, far, v(32, 0, 0), 2, wall...)
				passes(t, far, api.Vec{}, 2, wall...)
				passes(t, api.Vec{}, far, 2, wall...)
				passes(t, far, api.Vec{X: -far.X, Y: -far.Y, Z: -far.Z}, 2, wall...)
			}
		}
	}
	passes(t, with(api.Vec{}, math.MinInt, 0, 0), with(api.Vec{}, math.MaxInt, 0, 0), 2, wall...)
	passes(t, with(api.Vec{}, math.MaxInt, math.MinInt, 0), with(api.Vec{}, math.MinInt, math.MaxInt, 0), 2, wall...)
}

// odd are cores that may not be, all of which would stand in the way.
func odd() []api.Core {
	at := func(n int) []api.Point { return slices.Repeat([]api.Point{p(20, 0, 0)}, n) }
	long := func(n int) []api.Point { return slices.Repeat([]api.Point{p(1, 0, 0)}, n) }
	l := []api.Core{
		{}, {Radius: 2}, {Points: at(33), Radius: 2}, {Points: at(1), Radius: -1}, {Points: at(1), Radius: 1<<16 + 1},
		{Points: at(1), Axes: long(129), Radius: 2}, {Points: at(1), Edges: long(129), Radius: 2},
	}
	for _, n := range []int{1<<20 + 1, -1<<20 - 1, math.MinInt, math.MaxInt} {
		l = append(l, api.Core{Points: at(1), Axes: []api.Point{p(0, n, 0)}, Radius: 2}, api.Core{Points: at(1), Edges: []api.Point{p(0, 0, n)}, Radius: 2})
	}
	for _, n := range []int{1<<24 + 1, -1<<24 - 1, math.MinInt, math.MaxInt} {
		l = append(l, api.Core{Points: append(at(1), p(n, 0, 0)), Radius: 2}, api.Core{Points: append(at(1), p(20, 0, n)), Radius: 2})
	}
	return l
}

// TestH1Odd: cores that may not be hold nothing, and keep no other one from holding.
func TestH1Odd(t *testing.T) {
	from, to, wall := v(0, 0, 0), v(32, 0, 0), ball(2, 20, 0, 0)
	for _, c := range odd() {
		passes(t, from, to, 2, c)
		passes(t, v(20, 0, 0), to, 2, c)
		holds(t, from, to, 2, []api.Core{c, wall}, v(16, 0, 0), 8)
		holds(t, from, to, 2, []api.Core{wall, c}, v(16, 0, 0), 8)
	}
	passes(t, from, to, 2, odd()...)
	full := api.Core{Points: slices.Repeat(wall.Points, 32), Axes: slices.Repeat([]api.Point{p(1<<20, 0, 0)}, 128), Edges: slices.Repeat([]api.Point{p(0, 1, 0)}, 128), Radius: 2}
	holds(t, from, to, 2, append(odd(), full), v(16, 0, 0), 8)
}

// TestH1Walls: walls with faces hold it, thin ones too; and it goes past what it does
// not meet.
func TestH1Walls(t *testing.T) {
	ground := triangle(t, p(-500, 0, -500), p(0, 0, 900), p(900, 0, -500))
	holds(t, v(0, 100, 0), v(0, -60, 0), 15, []api.Core{ground}, v(0, 20, 0), 8)
	holds(t, v(0, -100, 0), v(0, 60, 0), 15, []api.Core{ground}, v(0, -20, 0), 8)
	passes(t, v(0, 14, 0), v(0, -146, 0), 15, ground)
	holds(t, v(0, 15, 0), v(0, -145, 0), 15, []api.Core{ground}, v(0, 15, 0), 0)
	passes(t, v(0, 15, 0), v(160, 15, 0), 15, ground)
	passes(t, v(0, 100, 0), v(0, 15, 0), 15, ground)
	passes(t, v(-600, 100, 0), v(-600, -60, 0), 15, ground)
	thin := brick(t, p(1, 1000, 1000), p(50, 0, 0))
	holds(t, v(0, 0, 0), v(160, 0, 0), 5, []api.Core{thin}, v(40, 0, 0), 4)
	holds(t, v(100, 0, 0), v(-60, 0, 0), 5, []api.Core{thin}, v(60, 0, 0), 4)
	holds(t, v(0, 0, 0), v(160, 160, 0), 5, []api.Core{thin}, v(40, 40, 0), 4)
	holds(t, v(0, 0, 0), v(1600, 0, 0), 5, []api.Core{thin}, v(0, 0, 0), 0)
	holds(t, v(0, 0, 0), v(160, 0, 0), 5, []api.Core{ground, thin}, v(40, 0, 0), 4)
	holds(t, v(0, 6, 0), v(160, -10, 0), 5, []api.Core{thin, ground}, v(10, 5, 0), 1)
	passes(t, v(0, 1100, 0), v(160, 1100, 0), 5, thin)
}

// TestSixtyMetres: a ball of 60 metres a second goes 3840 grains a step; the wall is
// 5 centimetres, some 204 grains. From wherever it comes, it stays ahead of the wall,
// by less than a sixteenth of its way, or is free.
func TestSixtyMetres(t *testing.T) {
	const radius, way, front = 256, 3840, 100000
	wall := []api.Core{brick(t, p(102, 8192, 8192), p(front+102, 0, 0))}
	for start := front - radius - 8000; start <= front-radius; start += 37 {
		for _, part := range []int{0, 1, g / 2, g - 1} {
			from, to := with(v(start, 0, 0), part, -part, 3*part), with(v(start+way, 0, 0), part, part, 0)
			at, k := ccd.Hold(&fx.Work{}, from, to, radius, wall)
			left := (front-radius)*g - at.X
			if start+way <= front-radius {
				if at != to || k != 16 {
					t.Fatal(start, part, at, k)
				}
			} else if left < -4*g || left > (way/16+4)*g || k == 16 {
				t.Fatal(start, part, at, k)
			}
		}
	}
}
