package contact_test

import (
	"math"
	"math/big"
	"slices"
	"testing"

	"tumbler/api"
	"tumbler/contact"
	"tumbler/fx"
	"tumbler/pose"
	"tumbler/shape"
	"tumbler/vec"
)

// dice tells numbers below n, the same ones each time.
type dice uint64

func (d *dice) below(n int) int {
	*d = *d*6364136223846793005 + 1442695040888963407
	mixed := (uint64(*d) ^ uint64(*d)>>29) * 0xbf58476d1ce4e5b9
	return int(mixed>>1) % n
}

// part is a number of a size of at most n.
func (d *dice) part(n int) int { return d.below(2*n+1) - n }

func (d *dice) point(n int) api.Point { return p(d.part(n), d.part(n), d.part(n)) }

// some are up to n points, of parts of a size of up to wide; flat ones at times.
func (d *dice) some(n, wide int) []api.Point {
	var l []api.Point
	flat := d.below(4)
	for range d.below(n + 1) {
		q := d.point(wide)
		if flat == 0 {
			q.Y = 0
		}
		l = append(l, q)
	}
	return l
}

// core is one that may be: of few points or of many, near or far.
func (d *dice) core() api.Core {
	near := []int{1, 3, 4, 6, 10, 10, 30, 1000, 1 << 16, 1 << 24}[d.below(10)]
	c := api.Core{Points: append(d.some([]int{0, 1, 3, 8, 31}[d.below(5)], near), d.point(near))}
	c.Axes, c.Edges = d.some(4, 3), d.some(4, 3)
	c.Radius = d.below(1+near) % (1<<16 + 1)
	return c
}

// spoiled is the core with one thing in it that is just at a bound, or beyond it.
func (d *dice) spoiled(c api.Core) api.Core {
	at := func(most int) int { return []int{most, -most, most + 1, -most - 1}[d.below(4)] }
	with := func(l []api.Point, most int) []api.Point {
		q := d.point(9)
		*[]*int{&q.X, &q.Y, &q.Z}[d.below(3)] = at(most)
		return append(l[:len(l):len(l)], q)
	}
	switch d.below(4) {
	case 0:
		c.Points = with(c.Points[:len(c.Points)-1], 1<<24)
	case 1:
		c.Axes = with(c.Axes, 1<<20)
	case 2:
		c.Edges = with(c.Edges, 1<<20)
	default:
		c.Radius = []int{-1, 1<<16 + 1, 1 << 16, 0}[d.below(4)]
	}
	return c
}

// axis is a direction: along an axis of space, small, or great; beyond the bound at
// times.
func (d *dice) axis() api.Point {
	switch d.below(20) {
	case 0:
		return d.point(1<<20 + 1<<10)
	case 1:
		return d.spoiled(api.Core{Points: list(0, 0, 0)}).Points[0] // a part of 2^24, or nothing
	case 2, 3, 4, 5, 6:
		return []api.Point{p(0, 1<<20, 0), p(0, -1<<20, 0), p(1<<20, 0, 0), p(0, 0, -1<<20)}[d.below(4)]
	}
	return d.point([]int{1, 5, 1000, 1 << 20}[d.below(4)])
}

// turn is one of a Norm of One.
func (d *dice) turn() api.Quat {
	for {
		w := &fx.Work{}
		q := vec.Whole(w, api.Quat{W: d.part(api.One), X: d.part(api.One), Y: d.part(api.One), Z: d.part(api.One)})
		if !w.Bad {
			return q
		}
	}
}

// placed is a shape's core, somewhere near, turned or not.
func (d *dice) placed(t *testing.T) api.Core {
	t.Helper()
	wide := []int{9, 300, 1 << 14}[d.below(3)]
	s := api.Shape{Kind: 1 + d.below(4), Radius: 1 + d.below([]int{5, 100, 1 << 14}[d.below(3)]), Half: p(1+d.below(wide), 1+d.below(wide), 1+d.below(wide))}
	for range 4 + d.below(9) {
		s.Points = append(s.Points, d.point(wide))
	}
	if shape.Check(s) != api.OK {
		s.Kind = api.Brick
	}
	turn := d.turn()
	if d.below(3) == 0 {
		turn = api.Quat{W: api.One}
	}
	at := d.point(wide)
	c, ok := pose.Place(coreOf(t, s), api.Pose{At: api.Vec{X: at.X << 20, Y: at.Y << 20, Z: at.Z<<20 + d.below(1<<20)}, Turn: turn})
	if !ok {
		t.Fatal(s, at)
	}
	return c
}

// book is the rules over again, of exact numbers.
type book struct{}

func (b book) number(n int) *big.Int { return big.NewInt(int64(n)) }

// along is n . q.
func (b book) along(n, q api.Point) *big.Int {
	sum := new(big.Int)
	x, y := [3]int{n.X, n.Y, n.Z}, [3]int{q.X, q.Y, q.Z}
	for i := range 3 {
		sum.Add(sum, new(big.Int).Mul(b.number(x[i]), b.number(y[i])))
	}
	return sum
}

// great is whether a part's size is above most; the least int's is no int.
func (b book) great(q api.Point, most int) bool {
	for _, n := range []int{q.X, q.Y, q.Z} {
		if b.number(n).CmpAbs(b.number(most)) > 0 {
			return true
		}
	}
	return false
}

func (b book) mayBe(c api.Core) bool {
	is := len(c.Points) >= 1 && len(c.Points) <= 32 && len(c.Axes) <= 128 && len(c.Edges) <= 128 && c.Radius >= 0 && c.Radius <= 1<<16
	for _, q := range c.Points {
		is = is && !b.great(q, 1<<24)
	}
	for _, l := range [][]api.Point{c.Axes, c.Edges} {
		for _, q := range l {
			is = is && !b.great(q, 1<<20)
		}
	}
	return is
}

// sizes are the lower and the upper one.
func (b book) sizes(n api.Point) (low, up *big.Int) {
	square := b.along(n, n)
	low = new(big.Int).Sqrt(square)
	up = new(big.Int).Set(low)
	if new(big.Int).Mul(low, low).Cmp(square) < 0 {
		up.Add(up, b.number(1))
	}
	return low, up
}

// furthest is the greatest n . q of the points.
func (b book) furthest(l []api.Point, n api.Point) *big.Int {
	best := b.along(n, l[0])
	for _, q := range l {
		if at := b.along(n, q); at.Cmp(best) > 0 {
			best = at
		}
	}
	return best
}

func (b book) back(q api.Point) api.Point { return p(-q.X, -q.Y, -q.Z) }

// front are the places of the points of a core that is ahead along n. (b's is that
// along the other way round.)
func (b book) front(l []api.Point, n api.Point) []int {
	_, up := b.sizes(n)
	room := new(big.Int).Mul(up, b.number(8))
	var out []int
	for i, q := range l {
		if new(big.Int).Sub(b.furthest(l, n), b.along(n, q)).Cmp(room) <= 0 {
			out = append(out, i)
		}
	}
	return out
}

func (b book) spread(l []api.Point, front []int) int {
	sum := 0
	for _, part := range []func(q api.Point) int{
		func(q api.Point) int { return q.X }, func(q api.Point) int { return q.Y }, func(q api.Point) int { return q.Z },
	} {
		var all []int
		for _, i := range front {
			all = append(all, part(l[i]))
		}
		sum += slices.Max(all) - slices.Min(all)
	}
	return sum
}

// spots are the owner's, as if it were a: n is ahead for it. What it is deep in begins
// where its own points, the other way round, end.
func (b book) spots(own, other api.Core, n api.Point, first int) []api.Spot {
	low, _ := b.sizes(n)
	begin := new(big.Int).Neg(b.furthest(other.Points, b.back(n)))
	var out []api.Spot
	for _, i := range b.front(own.Points, n) {
		q := own.Points[i]
		deep := new(big.Int).Sub(b.along(n, q), begin)
		deep.Div(deep, low) // Euclid's, which is down
		far := func(part int) int {
			quotient := new(big.Int).Mul(b.number(part), b.number(own.Radius))
			return int(quotient.Quo(quotient, low).Int64()) // to nought
		}
		out = append(out, api.Spot{At: p(q.X+far(n.X), q.Y+far(n.Y), q.Z+far(n.Z)), Depth: int(deep.Int64()) + own.Radius + other.Radius, ID: first + i})
	}
	return out
}

// few keeps sums, to which each one that is chosen adds.
func (b book) few(l []api.Spot) []api.Spot {
	if len(l) <= 4 {
		return l
	}
	sums, stays := make([]*big.Int, len(l)), make([]bool, len(l))
	for i := range l {
		sums[i] = b.number(0)
	}
	next := 0
	for i, s := range l {
		if s.Depth > l[next].Depth {
			next = i
		}
	}
	for range 4 {
		stays[next] = true
		for i, s := range l {
			way := p(s.At.X-l[next].At.X, s.At.Y-l[next].At.Y, s.At.Z-l[next].At.Z)
			sums[i].Add(sums[i], b.along(way, way))
		}
		next = slices.Index(stays, false)
		for i := range l {
			if !stays[i] && sums[i].Cmp(sums[next]) > 0 {
				next = i
			}
		}
	}
	var out []api.Spot
	for i, s := range l {
		if stays[i] {
			out = append(out, s)
		}
	}
	return out
}

func (b book) touch(a, c api.Core, x api.Apart, within int) (api.Patch, bool) {
	n := x.Axis
	if !b.mayBe(a) || !b.mayBe(c) || n == (api.Point{}) || b.great(n, 1<<20) || x.Gap > within {
		return api.Patch{}, false
	}
	spots := b.spots(c, a, b.back(n), 256)
	if b.spread(a.Points, b.front(a.Points, n)) < b.spread(c.Points, b.front(c.Points, b.back(n))) {
		spots = b.spots(a, c, n, 0)
	}
	least := new(big.Int).Neg(b.number(within))
	spots = b.few(slices.DeleteFunc(spots, func(s api.Spot) bool { return b.number(s.Depth).Cmp(least) < 0 }))
	if len(spots) == 0 {
		return api.Patch{}, false
	}
	return api.Patch{Axis: n, Spots: spots}, true
}

// agree holds Touch against the book, and answers what it tells.
func (b book) agree(t *testing.T, a, c api.Core, x api.Apart, within int) (api.Patch, bool) {
	t.Helper()
	want, is := b.touch(a, c, x, within)
	got, ok := contact.Touch(a, c, x, within)
	if ok != is || got.Axis != want.Axis || !slices.Equal(got.Spots, want.Spots) {
		t.Fatalf("Touch %v %v %v %d: %v %v, not %v %v", a, c, x, within, got, ok, want, is)
	}
	return got, ok
}

// TestT1Exactly: whatever direction is handed in, with whatever gap.
func TestT1Exactly(t *testing.T) {
	d := dice(1)
	var by [5]int // how many have so many spots
	const all = 20000
	for range all {
		a, c := d.core(), d.core()
		if d.below(3) == 0 {
			c = pose.Moved(c, d.point(1<<d.below(20)))
		}
		switch d.below(12) {
		case 0:
			a = d.spoiled(a)
		case 1:
			c = d.spoiled(c)
		}
		within := d.part(1<<d.below(26)) + d.below(1<<d.below(26))
		x := api.Apart{Axis: d.axis(), Gap: within - d.below(10)*d.below(10)}
		if d.below(8) == 0 {
			x.Gap = within + 1 + d.below(9)
		}
		patch, _ := book{}.agree(t, a, c, x, within)
		by[len(patch.Spots)]++
	}
	for many, n := range by {
		if n < all/100 {
			t.Error(n, "of", all, "have", many, "spots")
		}
	}
}

// TestT1Shapes: of shapes, and of what layer 9 tells of them.
func TestT1Shapes(t *testing.T) {
	d := dice(2)
	var by [5]int
	const all = 3000
	for range all {
		a, c := d.placed(t), d.placed(t)
		x := apart(t, a, c)
		for _, within := range []int{0, x.Gap, x.Gap + 2, d.below(100)} {
			patch, _ := book{}.agree(t, a, c, x, within)
			by[len(patch.Spots)]++
		}
	}
	for many, n := range by {
		if n < all/50 {
			t.Error(n, "have", many, "spots")
		}
	}
}

// touching are shapes' cores that are in one another, with what layer 9 tells of them.
func (d *dice) touching(t *testing.T) (a, c api.Core, x api.Apart) {
	t.Helper()
	for {
		a, c = d.placed(t), d.placed(t)
		if x = apart(t, a, c); x.Gap < 0 {
			return a, c, x
		}
	}
}

// TestT2Deepest: of what is in one another the deepest spot is as deep as the Gap says,
// but for two grains.
func TestT2Deepest(t *testing.T) {
	d := dice(3)
	for range 4000 {
		a, c, x := d.touching(t)
		patch, ok := contact.Touch(a, c, x, 0)
		deepest := math.MinInt
		for _, s := range patch.Spots {
			deepest = max(deepest, s.Depth)
		}
		if !ok && x.Gap < -2 || ok && max(deepest+x.Gap, -x.Gap-deepest) > 2 {
			t.Fatal(a, c, x, patch, ok)
		}
	}
}

// TestT2Greatest: and so it is of balls as great as may be, that hardly are in one
// another.
func TestT2Greatest(t *testing.T) {
	d := dice(4)
	deep := 0
	for range 40000 {
		a := api.Core{Points: []api.Point{d.point(1 << 16)}, Radius: 1<<16 - d.below(9)}
		c := api.Core{Points: []api.Point{d.point(1 << 16)}, Radius: 1<<16 - d.below(9)}
		x := apart(t, a, c)
		if x.Gap >= 0 {
			continue
		}
		deep++
		patch, ok := contact.Touch(a, c, x, 2)
		if !ok || len(patch.Spots) != 1 || max(patch.Spots[0].Depth+x.Gap, -x.Gap-patch.Spots[0].Depth) > 2 {
			t.Fatal(a, c, x, patch)
		}
	}
	if deep < 1000 {
		t.Error(deep)
	}
}

// TestT2Moved: to move both moves the spots by that, and nothing else.
func TestT2Moved(t *testing.T) {
	d := dice(5)
	for range 4000 {
		a, c, x := d.touching(t)
		by := d.point(1 << 23)
		was, ok := contact.Touch(a, c, x, 5)
		e, f := pose.Moved(a, by), pose.Moved(c, by)
		is, too := contact.Touch(e, f, apart(t, e, f), 5)
		for i, s := range was.Spots {
			was.Spots[i].At = p(s.At.X+by.X, s.At.Y+by.Y, s.At.Z+by.Z)
		}
		if !ok || !too || is.Axis != was.Axis || !slices.Equal(is.Spots, was.Spots) {
			t.Fatal(a, c, x, by, was, is)
		}
	}
}

// TestT2Span: each spot lies within its owner's box, but for one grain, and has an ID
// of one of its points; all of them are of one owner, and rise.
func TestT2Span(t *testing.T) {
	d := dice(6)
	first, second := 0, 0
	for range 4000 {
		a, c, x := d.touching(t)
		patch, _ := contact.Touch(a, c, x, 5)
		own, from := a, 0
		if patch.Spots[0].ID >= 256 {
			own, from = c, 256
			second++
		} else {
			first++
		}
		last := -1
		for _, s := range patch.Spots {
			if !pose.Meet(pose.Grown(pose.Span(own), 1), api.Box{Min: s.At, Max: s.At}) || s.ID-from <= last || s.ID-from >= len(own.Points) {
				t.Fatal(a, c, x, patch)
			}
			last = s.ID - from
		}
	}
	if first < 500 || second < 500 {
		t.Error(first, second)
	}
}

// TestWithinAnything: no call panics, whatever it is handed; what may not be is
// refused with nothing beside it.
func TestWithinAnything(t *testing.T) {
	d := dice(7)
	wild := []int{0, 1, -1, 2, -3, 1 << 14, 1 << 16, 1<<16 + 1, 1 << 20, 1<<20 + 1, -1 << 20, 1 << 24, -1 << 24, 1<<24 + 1, 1 << 26, -1 << 26, 1<<26 + 1,
		1 << 32, 1 << 42, 1 << 62, math.MaxInt, math.MinInt}
	any := func(few int) int { return wild[d.below(few)] }
	some := func(few, many int) []api.Point {
		var l []api.Point
		for range d.below(many) {
			l = append(l, p(any(few), any(few), any(few)))
		}
		return l
	}
	taken := 0
	for range 60000 {
		few := 4 + d.below(len(wild)-3)
		a := api.Core{Points: some(few, 7), Axes: some(few, 3), Edges: some(few, 3), Radius: any(few)}
		c := api.Core{Points: some(few, 7), Axes: some(few, 3), Edges: some(few, 3), Radius: any(few)}
		x := api.Apart{Axis: p(any(few), any(few), any(few)), Gap: any(len(wild))}
		if _, ok := (book{}).agree(t, a, c, x, any(len(wild))); ok {
			taken++
		}
	}
	if taken < 500 {
		t.Error(taken)
	}
}
