package narrow_test

import (
	"math"
	"math/big"
	"math/bits"
	"slices"
	"testing"

	"tumbler/api"
	"tumbler/fx"
	"tumbler/narrow"
	"tumbler/pose"
	"tumbler/shape"
	"tumbler/vec"
)

// dice tells numbers below n, the same ones each time.
type dice uint64

func (d *dice) below(n int) int {
	*d = *d*6364136223846793005 + 1442695040888963407
	mixed := (uint64(*d) ^ uint64(*d)>>29) * 0xbf58476d1ce4e5b9
	return int(mixed>>1) % n
}

// part is a number of a size of at most n.
func (d *dice) part(n int) int { return d.below(2*n+1) - n }

func (d *dice) point(n int) api.Point { return p(d.part(n), d.part(n), d.part(n)) }

// some are up to n points, of parts of a size of up to wide; noughts at times.
func (d *dice) some(n, wide int) []api.Point {
	var l []api.Point
	for range d.below(n + 1) {
		q := d.point(wide)
		if d.below(10) == 0 {
			q = api.Point{}
		}
		l = append(l, q)
	}
	return l
}

// core is one that may be: of few points or of many, near or far, with directions
// that are small, so that many candidates tell the same, or great.
func (d *dice) core() api.Core {
	near := []int{1, 3, 10, 1000, 1 << 16, 1 << 24}[d.below(6)]
	c := api.Core{Points: append(d.some([]int{0, 1, 3, 8, 31}[d.below(5)], near), d.point(near))}
	c.Axes = d.some(4, []int{1, 3, 1000, 1 << 20}[d.below(4)])
	c.Edges = d.some(4, []int{1, 3, 1000, 1 << 20}[d.below(4)])
	c.Radius = d.below(1+near) % (1<<16 + 1)
	return c
}

// spoiled is the core with one thing in it that is just at a bound, or beyond it.
func (d *dice) spoiled(c api.Core) api.Core {
	at := func(most int) int { return []int{most, -most, most + 1, -most - 1}[d.below(4)] }
	with := func(l []api.Point, most int) []api.Point {
		q := d.point(9)
		*[]*int{&q.X, &q.Y, &q.Z}[d.below(3)] = at(most)
		return append(l[:len(l):len(l)], q)
	}
	switch d.below(4) {
	case 0:
		c.Points = with(c.Points[:len(c.Points)-1], 1<<24)
	case 1:
		c.Axes = with(c.Axes, 1<<20)
	case 2:
		c.Edges = with(c.Edges, 1<<20)
	default:
		c.Radius = []int{-1, 1<<16 + 1, 1 << 16, 0}[d.below(4)]
	}
	return c
}

// turn is one of a Norm of One.
func (d *dice) turn() api.Quat {
	for {
		w := &fx.Work{}
		q := vec.Whole(w, api.Quat{W: d.part(api.One), X: d.part(api.One), Y: d.part(api.One), Z: d.part(api.One)})
		if !w.Bad {
			return q
		}
	}
}

// placed is a shape's core, somewhere near, turned.
func (d *dice) placed(t *testing.T) api.Core {
	t.Helper()
	wide := []int{9, 300, 1 << 16}[d.below(3)]
	s := api.Shape{Kind: 1 + d.below(4), Radius: 1 + d.below(100), Half: p(1+d.below(wide), 1+d.below(wide), 1+d.below(wide))}
	for range 4 + d.below(5) {
		s.Points = append(s.Points, d.point(wide))
	}
	if shape.Check(s) != api.OK {
		s.Kind = api.Brick
	}
	at := d.point(2 * wide)
	c, ok := pose.Place(coreOf(t, s), api.Pose{At: api.Vec{X: at.X << 20, Y: at.Y << 20, Z: at.Z<<20 + d.below(1<<20)}, Turn: d.turn()})
	if !ok {
		t.Fatal(s, at)
	}
	return c
}

// book is the rules over again.
type book struct{}

func (b book) size(q api.Point) int { return max(q.X, -q.X, q.Y, -q.Y, q.Z, -q.Z) }

func (b book) back(q api.Point) api.Point { return p(-q.X, -q.Y, -q.Z) }

func (b book) along(n, q api.Point) int { return n.X*q.X + n.Y*q.Y + n.Z*q.Z }

// cross goes round the parts.
func (b book) cross(q, r api.Point) api.Point {
	x, y := [3]int{q.X, q.Y, q.Z}, [3]int{r.X, r.Y, r.Z}
	var out [3]int
	for i := range 3 {
		j, k := (i+1)%3, (i+2)%3
		out[i] = x[j]*y[k] - x[k]*y[j]
	}
	return p(out[0], out[1], out[2])
}

func (b book) mayBe(c api.Core) bool {
	is := len(c.Points) >= 1 && len(c.Points) <= 32 && len(c.Axes) <= 128 && len(c.Edges) <= 128 && c.Radius >= 0 && c.Radius <= 1<<16
	for _, q := range c.Points {
		is = is && !b.great(q, 1<<24)
	}
	for _, l := range [][]api.Point{c.Axes, c.Edges} {
		for _, q := range l {
			is = is && !b.great(q, 1<<20)
		}
	}
	return is
}

// great is whether a part's size is above most; the least int's is no int.
func (b book) great(q api.Point, most int) bool {
	for _, n := range []int{q.X, q.Y, q.Z} {
		if new(big.Int).Abs(big.NewInt(int64(n))).Cmp(big.NewInt(int64(most))) > 0 {
			return true
		}
	}
	return false
}

// long doubles by one shift.
func (b book) long(n api.Point) api.Point {
	n = shape.Short(n)
	if b.size(n) == 0 {
		return n
	}
	twos := 20 - bits.Len(uint(b.size(n)-1))
	return p(n.X<<twos, n.Y<<twos, n.Z<<twos)
}

// candidates are all of them in a list, none of them left out.
func (b book) candidates(a, c api.Core) []api.Point {
	var l []api.Point
	l = append(l, a.Axes...)
	l = append(l, c.Axes...)
	for _, e := range a.Edges {
		for _, f := range c.Edges {
			l = append(l, b.cross(e, f))
		}
	}
	if min(len(a.Points), len(c.Points)) > 2 {
		return l
	}
	for _, q := range a.Points {
		for _, r := range c.Points {
			d := shape.Short(p(r.X-q.X, r.Y-q.Y, r.Z-q.Z))
			l = append(l, d)
			for _, e := range append(append([]api.Point{}, a.Edges...), c.Edges...) {
				l = append(l, b.cross(shape.Short(b.cross(e, d)), e))
			}
		}
	}
	return l
}

// sizes are by a root of exact numbers.
func (b book) sizes(n api.Point) (low, up int) {
	square := big.NewInt(int64(b.along(n, n)))
	low = int(new(big.Int).Sqrt(square).Int64())
	if low*low < b.along(n, n) {
		return low, low + 1
	}
	return low, low
}

// nearest is the least n . (r - q) of all points of both.
func (b book) nearest(a, c api.Core, n api.Point) int {
	out := math.MaxInt
	for _, q := range a.Points {
		for _, r := range c.Points {
			out = min(out, b.along(n, r)-b.along(n, q))
		}
	}
	return out
}

// gap rounds by Euclid's division, which is down where what divides is above 0; away
// from nought is down, too, below 0.
func (b book) gap(a, c api.Core, n api.Point) int {
	s := b.nearest(a, c, n)
	by, up := b.sizes(n)
	if s >= 0 {
		by = up
	}
	down := new(big.Int).Div(big.NewInt(int64(s)), big.NewInt(int64(by)))
	return int(down.Int64()) - a.Radius - c.Radius
}

func (b book) apart(a, c api.Core) (api.Apart, bool) {
	if !b.mayBe(a) || !b.mayBe(c) {
		return api.Apart{}, false
	}
	var all []api.Apart
	for _, n := range b.candidates(a, c) {
		if n = b.long(n); b.size(n) > 0 {
			all = append(all, api.Apart{Axis: n, Gap: b.gap(a, c, n)}, api.Apart{Axis: b.back(n), Gap: b.gap(a, c, b.back(n))})
		}
	}
	if len(all) == 0 {
		return api.Apart{Axis: p(0, 0, 1<<20), Gap: 0 - a.Radius - c.Radius}, true
	}
	best := all[0]
	for _, x := range all {
		if x.Gap > best.Gap {
			best = x
		}
	}
	return best, true
}

// agree holds Apart against the book, and answers what it tells.
func (b book) agree(t *testing.T, a, c api.Core) (api.Apart, bool) {
	t.Helper()
	want, is := b.apart(a, c)
	got, ok := narrow.Apart(a, c)
	if ok != is || got != want {
		t.Fatalf("Apart %v %v: %v %v, not %v %v", a, c, got, ok, want, is)
	}
	return got, ok
}

func TestN1SizesExactly(t *testing.T) {
	d := dice(1)
	for range 200000 {
		n := d.point(1 << d.below(25))
		low, up := book{}.sizes(n)
		sizes(t, n, low, up)
		if t.Failed() {
			t.FailNow()
		}
	}
	for i := range 21 * 21 * 21 {
		n := p(i/441-10, i/21%21-10, i%21-10)
		low, up := book{}.sizes(n)
		sizes(t, n, low, up)
	}
}

func TestN1ReachExactly(t *testing.T) {
	d := dice(2)
	for range 20000 {
		c := api.Core{Points: append(d.some(9, 1<<d.below(27)), d.point(1<<d.below(27)))}
		n := d.point(1 << d.below(27))
		low, high := math.MaxInt, math.MinInt
		for _, q := range c.Points {
			low, high = min(low, book{}.along(n, q)), max(high, book{}.along(n, q))
		}
		reaches(t, c, n, low, high)
		if t.Failed() {
			t.FailNow()
		}
	}
}

func TestN2Exactly(t *testing.T) {
	d := dice(3)
	refused := 0
	const all = 12000
	for range all {
		a, c := d.core(), d.core()
		if d.below(3) == 0 {
			c = pose.Moved(c, d.point(1<<d.below(20))) // near its own place: at times too far
		}
		switch d.below(8) {
		case 0:
			a = d.spoiled(a)
		case 1:
			c = d.spoiled(c)
		}
		if _, ok := (book{}).agree(t, a, c); !ok {
			refused++
		}
	}
	if refused < all/20 || refused > all/4 {
		t.Error(refused, "of", all, "are refused")
	}
}

func TestN2Shapes(t *testing.T) {
	d := dice(4)
	deep := 0
	const all = 1500
	for range all {
		x, ok := book{}.agree(t, d.placed(t), d.placed(t))
		if !ok {
			t.Fatal("not told")
		}
		if x.Gap < 0 {
			deep++
		}
	}
	if deep < all/10 || deep > all*9/10 {
		t.Error(deep, "of", all, "are in one another")
	}
}

// full is a core with as many points and directions as there may be.
func (d *dice) full(points int) api.Core {
	c := api.Core{Radius: 1 << 16}
	for range points {
		c.Points = append(c.Points, d.point(1<<24))
	}
	for range 128 {
		c.Axes = append(c.Axes, d.point(1<<20))
		c.Edges = append(c.Edges, d.point(1<<20))
	}
	return c
}

func TestN2Full(t *testing.T) {
	d := dice(5)
	for _, many := range []int{32, 2} {
		(book{}).agree(t, d.full(many), d.full(32))
	}
	c := d.full(32)
	for _, wrong := range []api.Core{
		{Points: append(d.full(32).Points, p(0, 0, 0)), Axes: c.Axes, Edges: c.Edges},
		{Points: c.Points, Axes: append(d.full(1).Axes, p(1, 0, 0)), Edges: c.Edges},
		{Points: c.Points, Axes: c.Axes, Edges: append(d.full(1).Edges, p(1, 0, 0))},
	} {
		refused(t, c, wrong)
		refused(t, wrong, c)
	}
}

// times is n by m, exactly.
func times(n, m int) *big.Int { return new(big.Int).Mul(big.NewInt(int64(n)), big.NewInt(int64(m))) }

// proven is whether what is told can be checked by its direction, as N3 says.
func proven(a, c api.Core, x api.Apart) bool {
	low, up := narrow.Sizes(x.Axis)
	by := low
	if x.Gap >= 0 {
		by = up
	}
	for _, q := range a.Points {
		for _, r := range c.Points {
			between := book{}.along(x.Axis, p(r.X-q.X, r.Y-q.Y, r.Z-q.Z))
			if big.NewInt(int64(between)).Cmp(times(x.Gap+a.Radius+c.Radius, by)) < 0 {
				return false
			}
		}
	}
	return low > 0
}

func told(t *testing.T, a, c api.Core) api.Apart {
	t.Helper()
	x, ok := narrow.Apart(a, c)
	if !ok {
		t.Fatal(a, c)
	}
	return x
}

// hasCandidates is whether a direction was asked at all: of many points without any
// nothing is proven.
func (b book) hasCandidates(a, c api.Core) bool {
	return slices.ContainsFunc(b.candidates(a, c), func(n api.Point) bool { return b.size(n) > 0 })
}

// TestN3Proof: what is told is proven; the other way round as much is told; and where
// both stand bears upon nothing.
func TestN3Proof(t *testing.T) {
	d := dice(6)
	aparts, deep := 0, 0
	for i := range 6000 {
		a, c := d.core(), d.core()
		if i%3 == 0 {
			a, c = d.placed(t), d.placed(t)
		}
		a.Points, c.Points = halved(a.Points), halved(c.Points) // so that there is room to move
		if !(book{}).hasCandidates(a, c) {
			continue
		}
		x := told(t, a, c)
		if !proven(a, c, x) {
			t.Fatal(a, c, x)
		}
		if y := told(t, c, a); y.Gap != x.Gap || !proven(c, a, y) {
			t.Fatal(a, c, x, y)
		}
		by := d.point(1 << 23)
		if y := told(t, pose.Moved(a, by), pose.Moved(c, by)); y != x {
			t.Fatal(a, c, by, x, y)
		}
		if x.Gap < 0 {
			deep++
		} else {
			aparts++
		}
	}
	if aparts < 1000 || deep < 1000 {
		t.Error(aparts, "are apart,", deep, "are not")
	}
}

// halved are the points, each part by 2.
func halved(l []api.Point) []api.Point {
	var out []api.Point
	for _, q := range l {
		out = append(out, p(q.X/2, q.Y/2, q.Z/2))
	}
	return out
}

// TestN3Moved: b, moved along the direction by what a Gap below 0 says, is apart.
// (Along axes of space, so that this is by whole grains.)
func TestN3Moved(t *testing.T) {
	d := dice(7)
	deep := 0
	for range 5000 {
		side := func() int { return 1 + d.below(50) }
		a, c := brick(t, d.below(5), side(), side(), side()), brick(t, d.below(5), side(), side(), side())
		c = pose.Moved(c, d.point(60))
		x := told(t, a, c)
		if x.Gap >= 0 {
			continue
		}
		deep++
		by := func(n int) api.Point { return p(x.Axis.X/long*n, x.Axis.Y/long*n, x.Axis.Z/long*n) }
		if y := told(t, a, pose.Moved(c, by(-x.Gap))); y.Gap != 0 {
			t.Fatal(a, c, x, y)
		}
		if y := told(t, a, pose.Moved(c, by(-x.Gap-1))); y.Gap != -1 {
			t.Fatal(a, c, x, y)
		}
	}
	if deep < 1000 {
		t.Error(deep)
	}
}

// TestN3Balls: two balls are told apart by no more than their distance, and by no
// less, but for 2 and a 2^16th of it.
func TestN3Balls(t *testing.T) {
	d := dice(8)
	for range 100000 {
		a := api.Core{Points: []api.Point{d.point(1 << d.below(25))}, Radius: d.below(1<<16 + 1)}
		c := api.Core{Points: []api.Point{d.point(1 << d.below(25))}, Radius: d.below(1<<16 + 1)}
		if d.below(10) == 0 {
			c.Points = a.Points
		}
		x := told(t, a, c)
		far := x.Gap + a.Radius + c.Radius
		way := p(c.Points[0].X-a.Points[0].X, c.Points[0].Y-a.Points[0].Y, c.Points[0].Z-a.Points[0].Z)
		square := book{}.along(way, way) // at most 3 * 2^50
		if far < 0 || far*far > square {
			t.Fatal(a, c, x)
		}
		// far + 2 is at least (1 - 2^-16) times the distance
		if left, right := times((far+2)<<16, (far+2)<<16), times(square, 65535*65535); left.Cmp(right) < 0 {
			t.Fatal(a, c, x)
		}
	}
}

// TestN3Points: no direction tells more than what is nearest: of two that have a
// point in one place, none is apart by more than nought.
func TestN3Points(t *testing.T) {
	d := dice(9)
	for range 5000 {
		a, c := d.core(), d.core()
		c.Points[len(c.Points)-1] = a.Points[d.below(len(a.Points))]
		if x := told(t, a, c); x.Gap > -a.Radius-c.Radius {
			t.Fatal(a, c, x)
		}
	}
}

// TestWithinAnything: no call panics, whatever it is handed; what may not be is
// refused with nothing beside it.
func TestWithinAnything(t *testing.T) {
	d := dice(10)
	wild := []int{0, 1, -1, 2, -3, 1 << 14, 1 << 16, 1<<16 + 1, 1 << 20, 1<<20 + 1, -1 << 20, 1 << 24, -1 << 24, 1<<24 + 1, 1 << 26, -1 << 26, 1<<26 + 1,
		1 << 32, 1 << 42, 1 << 62, math.MaxInt, math.MinInt}
	any := func(few int) int { return wild[d.below(few)] }
	some := func(few, many int) []api.Point {
		var l []api.Point
		for range d.below(many) {
			l = append(l, p(any(few), any(few), any(few)))
		}
		return l
	}
	taken := 0
	for range 30000 {
		few := 4 + d.below(len(wild)-3)
		a := api.Core{Points: some(few, 5), Axes: some(few, 3), Edges: some(few, 3), Radius: any(few)}
		c := api.Core{Points: some(few, 5), Axes: some(few, 3), Edges: some(few, 3), Radius: any(few)}
		if _, ok := (book{}).agree(t, a, c); ok {
			taken++
		}
		n := p(any(few), any(few), any(few))
		low, up := narrow.Sizes(n)
		if (low == 0) != (n == api.Point{} || book{}.great(n, 1<<24)) || low > up || up > low+1 {
			t.Fatal(n, low, up)
		}
		if low, high := narrow.Reach(a, n); low > high {
			t.Fatal(a, n, low, high)
		}
	}
	if taken < 500 {
		t.Error(taken)
	}
}
