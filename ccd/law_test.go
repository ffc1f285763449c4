package ccd_test

import (
	"math"
	"math/big"
	"slices"
	"testing"

	"tumbler/api"
	"tumbler/ccd"
	"tumbler/fx"
	"tumbler/mesh"
	"tumbler/narrow"
	"tumbler/pose"
	"tumbler/shape"
	"tumbler/sweep"
	"tumbler/vec"
)

// dice tells numbers below n, the same ones each time.
type dice uint64

func (d *dice) below(n int) int {
	*d = *d*6364136223846793005 + 1442695040888963407
	mixed := (uint64(*d) ^ uint64(*d)>>29) * 0xbf58476d1ce4e5b9
	return int(mixed>>1) % n
}

// part is a number of a size of at most n.
func (d *dice) part(n int) int { return d.below(2*n+1) - n }

func (d *dice) point(n int) api.Point { return p(d.part(n), d.part(n), d.part(n)) }

// place is within so many grains, mostly between them.
func (d *dice) place(n int) api.Vec {
	q := d.point(n)
	if d.below(4) == 0 {
		return v(q.X, q.Y, q.Z)
	}
	return with(v(q.X, q.Y, q.Z), d.below(g), d.below(g), d.below(g))
}

func (d *dice) turn() api.Quat {
	for {
		w := &fx.Work{}
		q := vec.Whole(w, api.Quat{W: d.part(api.One), X: d.part(api.One), Y: d.part(api.One), Z: d.part(api.One)})
		if !w.Bad {
			return q
		}
	}
}

// tri is a triangle as a ground has them.
func (d *dice) tri(far int) api.Core {
	at := d.point(far)
	var l []api.Point
	for range 3 {
		q := d.point([]int{60, 900, 3000}[d.below(3)])
		l = append(l, p(at.X+q.X, at.Y+q.Y, at.Z+q.Z))
	}
	m, e := mesh.New(l, [][3]int{{0, 1, 2}})
	if e != api.OK {
		return d.tri(far)
	}
	c, _ := m.Tri(0)
	return c
}

// wall is a shape's core within so many grains, turned or not, or a triangle.
func (d *dice) wall(far int) api.Core {
	wide := []int{9, 300, 2000}[d.below(3)]
	s := api.Shape{Kind: 1 + d.below(4), Radius: 1 + d.below([]int{5, 100, 600}[d.below(3)]), Half: p(1+d.below(wide), 1+d.below(wide), 1+d.below(wide))}
	for range 4 + d.below([]int{2, 2, 2, 9}[d.below(4)]) {
		s.Points = append(s.Points, d.point(wide))
	}
	if d.below(4) == 0 {
		return d.tri(far)
	}
	c, e := shape.Core(s)
	if e != api.OK {
		return d.wall(far)
	}
	turn := d.turn()
	if d.below(3) == 0 {
		turn = api.Quat{W: api.One}
	}
	if c, is := pose.Place(c, api.Pose{At: d.place(far), Turn: turn}); is {
		return c
	}
	return d.wall(far)
}

// walls are some, of which the ball is in some at times.
func (d *dice) walls(far int) []api.Core {
	var l []api.Core
	for range d.below(6) {
		l = append(l, d.wall(far))
	}
	return l
}

// way is from a place to another one: mostly toward one of the walls, not to it, to
// it or past it.
func (d *dice) way(l []api.Core, far int) (api.Vec, api.Vec) {
	from, to := d.place(far), d.place(far)
	if len(l) == 0 || d.below(4) == 0 {
		return from, to
	}
	c := l[d.below(len(l))]
	at, times := c.Points[d.below(len(c.Points))], 2+d.below([]int{20, 30, 120}[d.below(3)])
	toward := func(from, to int) int { return from + (to-from)/8*times }
	return from, with(api.Vec{X: toward(from.X, at.X*g), Y: toward(from.Y, at.Y*g), Z: toward(from.Z, at.Z*g)}, d.part(3*g), d.part(3*g), d.part(3*g))
}

// spoiled is the core with one thing in it that is just at a bound, or beyond it.
func (d *dice) spoiled(c api.Core) api.Core {
	at := func(most int) int { return []int{most, -most, most + 1, -most - 1}[d.below(4)] }
	into := func(l []api.Point, most int) []api.Point {
		q := d.point(9)
		*[]*int{&q.X, &q.Y, &q.Z}[d.below(3)] = at(most)
		return append(slices.Clone(l), q)
	}
	switch d.below(6) {
	case 0:
		c.Points = into(c.Points, 1<<24)
	case 1:
		c.Axes = into(c.Axes, 1<<20)
	case 2:
		c.Edges = into(c.Edges, 1<<20)
	case 3:
		c.Points = slices.Repeat(c.Points[:1], 31+d.below(3))
	case 4:
		c.Points = nil
	default:
		c.Radius = []int{-1, 1<<16 + 1, 1 << 16, 0}[d.below(4)]
	}
	return c
}

// book is the rules over again, of exact numbers. What layers 9 and 11 tell of two
// that may be is taken from them.
type book struct{}

func (book) number(n int) *big.Int { return big.NewInt(int64(n)) }

func (book) parts(a api.Vec) [3]*big.Int {
	return [3]*big.Int{big.NewInt(int64(a.X)), big.NewInt(int64(a.Y)), big.NewInt(int64(a.Z))}
}

func (b book) great(x [3]*big.Int, most int) bool {
	return slices.ContainsFunc(x[:], func(n *big.Int) bool { return n.CmpAbs(b.number(most)) > 0 })
}

func (b book) anyGreat(l []api.Point, most int) bool {
	return slices.ContainsFunc(l, func(q api.Point) bool { return b.great(b.parts(api.Vec(q)), most) })
}

// down is a / b of b above 0.
func (book) down(a, b *big.Int) *big.Int { return new(big.Int).Div(a, b) }

// grains are a place's, and those of the way to another one.
func (b book) grains(from, to api.Vec) (at, way [3]*big.Int) {
	x, y := b.parts(from), b.parts(to)
	for i := range 3 {
		at[i] = b.down(x[i], b.number(g))
		way[i] = new(big.Int).Sub(b.down(y[i], b.number(g)), at[i])
	}
	return at, way
}

func (book) point(x [3]*big.Int) api.Point {
	return p(int(x[0].Int64()), int(x[1].Int64()), int(x[2].Int64()))
}

func (b book) mayBe(c api.Core) bool {
	return len(c.Points) >= 1 && len(c.Points) <= 32 && len(c.Axes) <= 128 && len(c.Edges) <= 128 && c.Radius >= 0 && c.Radius <= 1<<16 &&
		!b.anyGreat(c.Points, 1<<24) && !b.anyGreat(c.Axes, 1<<20) && !b.anyGreat(c.Edges, 1<<20)
}

// place is how far the ball comes.
func (b book) place(from, to api.Vec, part int) api.Vec {
	x, y := b.parts(from), b.parts(to)
	for i := range 3 {
		way := new(big.Int).Sub(y[i], x[i])
		x[i].Add(x[i], b.down(way.Mul(way, b.number(part)), b.number(16)))
	}
	return api.Vec(b.point(x))
}

func (b book) hold(from, to api.Vec, radius int, fixed []api.Core) (api.Vec, int) {
	at, way := b.grains(from, to)
	if b.great(b.parts(from), 1<<50) || b.great(b.parts(to), 1<<50) || b.great(at, 1<<24) || b.great(way, 1<<22) || radius < 0 || radius > 1<<16 {
		return to, 16
	}
	a := api.Core{Points: []api.Point{b.point(at)}, Radius: radius}
	parts := []int{16}
	for _, c := range fixed {
		if !b.mayBe(c) {
			continue
		}
		if x, is := narrow.Apart(a, c); !is || x.Gap < 0 {
			continue
		}
		if part, _, is := sweep.Cast(a, b.point(way), c); is {
			parts = append(parts, part)
		}
	}
	if part := slices.Min(parts); part < 16 {
		return b.place(from, to, part), part
	}
	return to, 16
}

func (b book) agrees(t *testing.T, from, to api.Vec, radius int, fixed []api.Core) int {
	t.Helper()
	at, part := b.hold(from, to, radius, fixed)
	holds(t, from, to, radius, fixed, at, part)
	if t.Failed() {
		t.FailNow()
	}
	return part
}

func TestH1ByBook(t *testing.T) {
	d := dice(1)
	var by [17]int
	for range 1800 {
		l := d.walls(5000)
		from, to := d.way(l, 5000)
		for i := range l {
			if d.below(8) == 0 {
				l[i] = d.spoiled(l[i])
			}
		}
		by[book{}.agrees(t, from, to, d.below([]int{1, 9, 600}[d.below(3)]), l)]++
	}
	if slices.Min(by[:]) < 4 {
		t.Error(by)
	}
}

// TestH1ByBookAtEdges: places, ways and radii at their bounds, and beyond.
func TestH1ByBookAtEdges(t *testing.T) {
	d := dice(2)
	edges := []int{0, 0, 16, 1 << 20, 1 << 22, 1<<24 - 1<<22, 1<<24 - 16, 1 << 24, 1<<24 + 1<<22}
	held, free := 0, 0
	for range 20000 {
		part := func() int {
			return (edges[d.below(len(edges))]*(1-2*d.below(2))+[]int{0, 0, 1, -1}[d.below(4)])*g + []int{0, 1, -1, g - 1}[d.below(4)]
		}
		from := api.Vec{X: part(), Y: part(), Z: part()}
		way := api.Vec{X: d.part(1 << 22), Y: d.part(1 << 22), Z: d.part(1 << 22)}
		*[]*int{&way.X, &way.Y, &way.Z}[d.below(3)] = (1<<22 + []int{0, 0, 1, -1}[d.below(4)]) * (1 - 2*d.below(2))
		to := with(from, way.X*g+d.part(2), way.Y*g+d.part(2), way.Z*g+d.part(2))
		if d.below(8) == 0 {
			from, to = to, from
		}
		at, times := from, d.below(17)
		wall := ball(1<<16, min(max((at.X+way.X*g/16*times)/g, -1<<24), 1<<24), (at.Y+way.Y*g/16*times)/g, (at.Z+way.Z*g/16*times)/g)
		if (book{}).agrees(t, from, to, []int{0, 9, 1 << 16, 1 << 16, 1<<16 + 1, -1}[d.below(6)], []api.Core{wall}) < 16 {
			held++
		} else {
			free++
		}
	}
	if held < 1000 || free < 3000 {
		t.Error(held, free)
	}
}

// between is the place n of m of the way, by each part times m.
func between(from, at, n, m int) int { return from*(m-n) + at*n }

// ahead is whether a ball, at all of some places of its way to at, is no nearer by x
// than four grains to what x tells it apart from.
func (b book) ahead(from, at api.Vec, radius int, x api.Apart, c api.Core) bool {
	const moments = 8
	_, up := narrow.Sizes(x.Axis)
	n := b.parts(api.Vec(x.Axis))
	least := b.number((radius + c.Radius - 4) * up)
	least.Mul(least, b.number(g*moments))
	for i := range moments + 1 {
		for _, q := range c.Points {
			sum, to := new(big.Int), b.parts(api.Vec{
				X: q.X*g*moments - between(from.X, at.X, i, moments),
				Y: q.Y*g*moments - between(from.Y, at.Y, i, moments),
				Z: q.Z*g*moments - between(from.Z, at.Z, i, moments),
			})
			for j := range 3 {
				sum.Add(sum, to[j].Mul(to[j], n[j]))
			}
			if sum.Cmp(least) < 0 {
				return false
			}
		}
	}
	return true
}

// TestH2Apart: whatever stood apart stands apart from all of the way, but for four
// grains, by a direction that proves it.
func TestH2Apart(t *testing.T) {
	d := dice(3)
	held, asked := 0, 0
	for range 1800 {
		l, radius := d.walls(4000), d.below(500)
		from, to := d.way(l, 4000)
		at, part := ccd.Hold(&fx.Work{}, from, to, radius, l)
		if part < 16 {
			held++
		}
		b := book{}
		grains, way := b.grains(from, to)
		a := api.Core{Points: []api.Point{b.point(grains)}, Radius: radius}
		for _, c := range l {
			x, is := narrow.Apart(a, c)
			if !is || x.Gap < 0 {
				continue
			}
			if part > 0 {
				x, _ = narrow.Apart(sweep.Trail(a, b.point(way), part), c)
			}
			asked++
			if x.Gap < 0 || !b.ahead(from, at, radius, x, c) {
				t.Fatal(from, to, radius, c, at, part, x)
			}
		}
	}
	if held < 500 || asked < 2000 {
		t.Error(held, asked)
	}
}

// outside is how far a number is from what goes from low to high.
func outside(n, low, high int) int { return max(low-n, n-high, 0) }

// TestH2Bricks: the same of bricks that stand straight, by how far they are; who is
// held has one within a sixteenth of his way, and few grains.
func TestH2Bricks(t *testing.T) {
	d := dice(4)
	const moments = 16
	var held int
	for range 4000 {
		half, at, radius := p(1+d.below(500), 1+d.below(500), 1+d.below(500)), d.point(2000), d.below(300)
		c := brick(t, half, at)
		from, to := d.way([]api.Core{c}, 3000)
		there, part := ccd.Hold(&fx.Work{}, from, to, radius, []api.Core{c})
		b := book{}
		far := func(i int) *big.Int { // its square, of FX by moments
			sum := new(big.Int)
			for _, x := range [3][4]int{{from.X, there.X, at.X, half.X}, {from.Y, there.Y, at.Y, half.Y}, {from.Z, there.Z, at.Z, half.Z}} {
				n := b.number(outside(between(x[0], x[1], i, moments), (x[2]-x[3])*g*moments, (x[2]+x[3])*g*moments))
				sum.Add(sum, n.Mul(n, n))
			}
			return sum
		}
		square := func(grains int) *big.Int {
			n := b.number(max(grains, 0) * g * moments)
			return n.Mul(n, n)
		}
		if far(0).Cmp(square(radius+2)) < 0 { // in it already, or nearly
			continue
		}
		for i := range moments + 1 {
			if far(i).Cmp(square(radius-4)) < 0 {
				t.Fatal(from, to, radius, half, at, there, part, i)
			}
		}
		if part == 16 {
			continue
		}
		held++
		w := &fx.Work{}
		if sixteenth := vec.Len(w, vec.Sub(w, to, from)) / 16 / g; far(moments).Cmp(square(radius+sixteenth+5)) > 0 {
			t.Fatal(from, to, radius, half, at, there, part)
		}
	}
	if held < 1000 {
		t.Error(held)
	}
}

// TestH2In: what it was in does not hold it: it is as if that was not there.
func TestH2In(t *testing.T) {
	d := dice(5)
	held, in := 0, 0
	for range 600 {
		l, radius := d.walls(3000), 1+d.below(500)
		from, to := d.way(l, 3000)
		at := p(from.X>>20, from.Y>>20, from.Z>>20)
		for range 1 + d.below(3) {
			c := d.wall(1000)
			first := c.Points[0]
			c = pose.Moved(c, p(at.X-first.X, at.Y-first.Y, at.Z-first.Z))
			l = slices.Insert(l, d.below(len(l)+1), c)
		}
		var rest []api.Core
		for _, c := range l {
			if x, _ := narrow.Apart(api.Core{Points: []api.Point{at}, Radius: radius}, c); x.Gap >= 0 {
				rest = append(rest, c)
			}
		}
		in += len(l) - len(rest)
		want, part := ccd.Hold(&fx.Work{}, from, to, radius, rest)
		holds(t, from, to, radius, l, want, part)
		if part < 16 {
			held++
		}
		if t.Failed() {
			t.FailNow()
		}
	}
	if held < 120 || in < 600 {
		t.Error(held, in)
	}
}

// TestH2Free: where nothing is in the way it comes to where it would; and where
// something is, it does not. (What is nearer than three grains may be told to be in the
// way of a part and not of the whole, or may not: all directions are rounded.)
func TestH2Free(t *testing.T) {
	d := dice(6)
	free, held := 0, 0
	for range 1500 {
		l, radius := d.walls(3000), d.below(300)
		from, to := d.way(l, 3000)
		b := book{}
		at, way := b.grains(from, to)
		a := api.Core{Points: []api.Point{b.point(at)}, Radius: radius}
		least := math.MaxInt
		for _, c := range l {
			if x, _ := narrow.Apart(a, c); x.Gap >= 0 {
				x, _ = narrow.Apart(sweep.Trail(a, b.point(way), 16), c)
				least = min(least, x.Gap)
			}
		}
		there, part := ccd.Hold(&fx.Work{}, from, to, radius, l)
		switch {
		case least >= 3:
			free++
			if there != to || part != 16 {
				t.Fatal(from, to, radius, l, there, part)
			}
		case least < 0:
			held++
			if part == 16 {
				t.Fatal(from, to, radius, l, there, part)
			}
		}
	}
	if free < 200 || held < 200 {
		t.Error(free, held)
	}
}

// TestH2Least: all walls hold it as far as the one does that holds it the most, in
// whatever order they stand, and where all of it stands does not matter.
func TestH2Least(t *testing.T) {
	d := dice(7)
	held := 0
	for range 400 {
		l, radius := d.walls(4000), d.below(400)
		from, to := d.way(l, 4000)
		least := 16
		for _, c := range l {
			_, part := ccd.Hold(&fx.Work{}, from, to, radius, []api.Core{c})
			least = min(least, part)
		}
		at, part := ccd.Hold(&fx.Work{}, from, to, radius, l)
		if part != least {
			t.Fatal(from, to, radius, l, part, least)
		}
		if part < 16 {
			held++
		}
		for i := range l {
			j := i + d.below(len(l)-i)
			l[i], l[j] = l[j], l[i]
		}
		holds(t, from, to, radius, append(l, l...), at, part)
		by := d.point(1 << 22)
		var other []api.Core
		for _, c := range l {
			other = append(other, pose.Moved(c, by))
		}
		far := func(a api.Vec) api.Vec { return with(a, by.X*g, by.Y*g, by.Z*g) }
		holds(t, far(from), far(to), radius, other, far(at), part)
		if t.Failed() {
			t.FailNow()
		}
	}
	if held < 100 {
		t.Error(held)
	}
}

// TestWithinAnything: no call panics, whatever it is handed, and all are as the rules
// have it.
func TestWithinAnything(t *testing.T) {
	d := dice(8)
	wild := []int{0, 1, -1, 2, -3, 1 << 14, 1 << 16, 1<<16 + 1, 1 << 20, 1<<20 + 1, -1 << 20, 1 << 22, -1 << 22, 1<<22 + 1, 1 << 24, -1 << 24, 1<<24 + 1,
		1 << 32, 1 << 42, 1<<42 + 1, 1 << 44, -1 << 44, 1<<44 + 1<<20, 1 << 50, 1<<50 + 1, -1<<50 - 1, 1 << 62, -1 << 62, math.MaxInt, math.MinInt}
	any := func(few int) int { return wild[d.below(few)] }
	some := func(few, many int) []api.Point {
		var l []api.Point
		for range d.below(many) {
			l = append(l, p(any(few), any(few), any(few)))
		}
		return l
	}
	for range 4000 {
		few := []int{8, 17, 24, len(wild)}[d.below(4)]
		var l []api.Core
		for range d.below(4) {
			l = append(l, api.Core{Points: some(few, 4), Axes: some(few, 4), Edges: some(few, 4), Radius: any(few)})
		}
		book{}.agrees(t, api.Vec{X: any(few), Y: any(few), Z: any(few)}, api.Vec{X: any(few), Y: any(few), Z: any(few)}, any(few), l)
	}
}

func copied(l []api.Core) []api.Core {
	var out []api.Core
	for _, c := range l {
		out = append(out, api.Core{Points: slices.Clone(c.Points), Axes: slices.Clone(c.Axes), Edges: slices.Clone(c.Edges), Radius: c.Radius})
	}
	return out
}

func same(a, b api.Core) bool {
	return slices.Equal(a.Points, b.Points) && slices.Equal(a.Axes, b.Axes) && slices.Equal(a.Edges, b.Edges) && a.Radius == b.Radius
}

// TestUnchanged: what is handed in is not written into, nor what stands behind its
// length, and it is not kept.
func TestUnchanged(t *testing.T) {
	d := dice(9)
	for range 150 {
		all, radius := append(d.walls(3000), d.wall(3000), d.wall(3000)), d.below(300)
		spare := p(7, 7, 7)
		for i := range all {
			for _, l := range []*[]api.Point{&all[i].Points, &all[i].Axes, &all[i].Edges} {
				*l = append(slices.Clone(*l), spare, spare)
				*l = (*l)[:len(*l)-2]
			}
		}
		was := copied(all)
		from, to := d.way(all, 3000)
		at, part := ccd.Hold(&fx.Work{}, from, to, radius, all[:len(all)-1])
		if !slices.EqualFunc(all, was, same) {
			t.Fatal(all, was)
		}
		for _, c := range all {
			for _, l := range [][]api.Point{c.Points, c.Axes, c.Edges} {
				if rest := l[len(l) : len(l)+2]; rest[0] != spare || rest[1] != spare {
					t.Fatal(c, rest)
				}
				clear(l)
			}
		}
		clear(all)
		holds(t, from, to, radius, was[:len(was)-1], at, part)
		if t.Failed() {
			t.FailNow()
		}
	}
}
