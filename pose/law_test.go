package pose_test

import (
	"math"
	"math/big"
	"math/bits"
	"testing"

	"tumbler/api"
	"tumbler/fx"
	"tumbler/pose"
	"tumbler/shape"
	"tumbler/vec"
)

// dice tells numbers below n, the same ones each time.
type dice uint64

func (d *dice) below(n int) int {
	*d = *d*6364136223846793005 + 1442695040888963407
	mixed := (uint64(*d) ^ uint64(*d)>>29) * 0xbf58476d1ce4e5b9
	return int(mixed>>1) % n
}

// part is a number of a size of at most n.
func (d *dice) part(n int) int { return d.below(2*n+1) - n }

// long is a number of any length up to 2^n.
func (d *dice) long(n int) int { return d.part(1 << d.below(n+1)) }

func (d *dice) point(n int) api.Point { return p(d.part(n), d.part(n), d.part(n)) }

// points are up to n, with parts of all lengths up to 2^20; at times a part is just
// around that.
func (d *dice) points(n int) []api.Point {
	var l []api.Point
	for range d.below(n + 1) {
		q := p(d.long(20), d.long(20), d.long(20))
		if d.below(40) == 0 {
			*[]*int{&q.X, &q.Y, &q.Z}[d.below(3)] = []int{1 << 20, -1 << 20, 1 << 19, -1 << 19}[d.below(4)] + d.part(1)
		}
		if d.below(20) == 0 {
			q = api.Point{}
		}
		l = append(l, q)
	}
	return l
}

func (d *dice) core() api.Core {
	return api.Core{Points: append(d.points(4), p(d.part(9), 0, 0)), Axes: d.points(4), Edges: d.points(4), Radius: d.part(99)}
}

// whole is a turn of a Norm of One.
func (d *dice) whole() api.Quat {
	w := &fx.Work{}
	for {
		q := vec.Whole(w, turn(d.part(one), d.part(one), d.part(one), d.part(one)))
		if !w.Bad {
			return q
		}
		w.Bad = false
	}
}

// turn is mostly whole; at times it hardly turns, turns by a part of a full turn, is
// not whole, or is too great.
func (d *dice) turn() api.Quat {
	switch d.below(8) {
	case 0:
		return turn(one, d.long(24), d.long(24), d.long(24))
	case 1:
		return turn(d.part(2)*one/2, d.part(2)*one/2, d.part(2)*one/2, d.part(2)*one/2)
	case 2:
		return turn(d.long(34), d.long(34), d.long(34), d.long(34))
	case 3:
		return turn(d.long(49), d.long(49), d.long(49), d.long(49))
	}
	return d.whole()
}

// at is mostly near; at times just around the bound, or too great.
func (d *dice) at() api.Vec {
	a := v(d.long(42), d.long(42), d.long(42))
	if d.below(6) == 0 {
		part := []*int{&a.X, &a.Y, &a.Z}[d.below(3)]
		*part = []int{1 << 43, -1 << 43, api.Most, -api.Most, 1 << 50}[d.below(5)] + d.long(21)
	}
	return a
}

func exact(n int) *big.Int { return big.NewInt(int64(n)) }

// book is the rules over again, with exact numbers; it is bad where a core is not
// placed.
type book struct{ bad bool }

func (b *book) asks(is bool) { b.bad = b.bad || !is }

// tell is a number that no work would find great.
func (b *book) tell(n *big.Int) int {
	if n.CmpAbs(exact(api.Most)) > 0 {
		b.bad = true
		return 0
	}
	return int(n.Int64())
}

// sum is the sum of products, by One, down.
func (b *book) sum(pairs ...int) *big.Int {
	n := new(big.Int)
	for i := 0; i < len(pairs); i += 2 {
		n.Add(n, new(big.Int).Mul(exact(pairs[i]), exact(pairs[i+1])))
	}
	return n.Rsh(n, 32)
}

// rows are V3's, told by the turn's axis going round.
func (b *book) rows(q api.Quat) [3][3]int {
	var m [3][3]int
	for _, n := range []int{q.W, q.X, q.Y, q.Z} {
		b.tell(new(big.Int).Lsh(exact(n), 1))
	}
	if b.bad {
		return m
	}
	axis := [3]int{q.X, q.Y, q.Z}
	for i := range 3 {
		j, k := (i+1)%3, (i+2)%3
		m[i][i] = b.tell(new(big.Int).Sub(exact(one), b.sum(2*axis[j], axis[j], 2*axis[k], axis[k])))
		m[i][j] = b.tell(b.sum(2*axis[i], axis[j], 2*q.W, -axis[k]))
		m[i][k] = b.tell(b.sum(2*axis[i], axis[k], 2*q.W, axis[j]))
	}
	return m
}

func (b *book) turned(m [3][3]int, q api.Point, times int) [3]int {
	var out [3]int
	for i := range 3 {
		out[i] = b.tell(b.sum(m[i][0], q.X*times, m[i][1], q.Y*times, m[i][2], q.Z*times))
	}
	return out
}

func (b *book) size(q api.Point) int { return max(q.X, -q.X, q.Y, -q.Y, q.Z, -q.Z) }

func (b *book) point(m [3][3]int, q api.Point, at api.Vec) api.Point {
	t := b.turned(m, q, 1<<20)
	var grains [3]int
	for i, n := range [3]int{at.X, at.Y, at.Z} {
		b.tell(exact(n))
		grains[i] = b.tell(new(big.Int).Add(exact(t[i]), exact(n)))
		grains[i] = int(new(big.Int).Div(exact(grains[i]), exact(1<<20)).Int64()) // Euclid's: down
	}
	return p(grains[0], grains[1], grains[2])
}

// directions doubles by one shift.
func (b *book) directions(m [3][3]int, l []api.Point) []api.Point {
	var out []api.Point
	for _, q := range l {
		b.asks(b.size(q) <= 1<<20)
		if b.bad || b.size(q) == 0 {
			continue
		}
		twos := 20 - bits.Len(uint(b.size(q)-1))
		t := b.turned(m, q, 1<<twos<<12)
		if n := shape.Short(p(t[0]/4096, t[1]/4096, t[2]/4096)); b.size(n) > 0 {
			out = append(out, n)
		}
	}
	return out
}

func (b *book) place(c api.Core, q api.Pose) api.Core {
	b.asks(len(c.Points) > 0)
	m := b.rows(q.Turn)
	out := api.Core{Radius: c.Radius}
	for _, a := range c.Points {
		b.asks(b.size(a) <= 1<<20)
		if b.bad {
			break
		}
		out.Points = append(out.Points, b.point(m, a, q.At))
		b.asks(b.size(out.Points[len(out.Points)-1]) <= 1<<23)
	}
	out.Axes, out.Edges = b.directions(m, c.Axes), b.directions(m, c.Edges)
	return out
}

func TestL1Exactly(t *testing.T) {
	d := dice(1)
	taken := 0
	const all = 100000
	for range all {
		c, q := d.core(), api.Pose{At: d.at(), Turn: d.turn()}
		var b book
		if want := b.place(c, q); b.bad {
			refused(t, c, q)
		} else {
			placed(t, c, q, want)
			taken++
		}
		if t.Failed() {
			t.FailNow()
		}
	}
	if taken < all/3 || taken > all*9/10 {
		t.Error("too few of one kind:", taken, "of", all, "are taken")
	}
}

// TestL1DirectionsBack: a direction that a whole turn has turned, and the turn's
// other way round has turned back, looks where it did, but for 2^-16: each time its
// parts, of which one is 2^19 or more, are less than two too small.
func TestL1DirectionsBack(t *testing.T) {
	d := dice(2)
	for range 20000 {
		first := api.Core{Points: list(0, 0, 0), Axes: []api.Point{d.point(1 << d.below(21))}}
		if first.Axes[0] == (api.Point{}) {
			continue
		}
		q := d.whole()
		there, ok := pose.Place(first, api.Pose{Turn: q})
		back, is := pose.Place(there, api.Pose{Turn: turn(q.W, -q.X, -q.Y, -q.Z)})
		if !ok || !is || len(there.Axes) != 1 || len(back.Axes) != 1 {
			t.Fatal(first, there, back)
		}
		if apart := sine(first.Axes[0], back.Axes[0]); apart > 1.0/(1<<16) {
			t.Fatal(first, there, back, apart)
		}
	}
}

// sine is of what is between two directions; 1, if they look apart.
func sine(q, r api.Point) float64 {
	a, b := [3]float64{float64(q.X), float64(q.Y), float64(q.Z)}, [3]float64{float64(r.X), float64(r.Y), float64(r.Z)}
	var dot, across, ofA, ofB float64
	for i := range 3 {
		j, k := (i+1)%3, (i+2)%3
		dot, ofA, ofB = dot+a[i]*b[i], ofA+a[i]*a[i], ofB+b[i]*b[i]
		across += (a[j]*b[k] - a[k]*b[j]) * (a[j]*b[k] - a[k]*b[j])
	}
	if dot <= 0 {
		return 1
	}
	return math.Sqrt(across / ofA / ofB)
}

// shapes are some that may be, one of each kind at least.
func (d *dice) shapes() []api.Shape {
	half := p(1+d.below(1<<16), 1+d.below(1<<16), 1+d.below(1<<16))
	l := []api.Shape{
		{Kind: api.Ball, Radius: 1 + d.below(1<<14)},
		{Kind: api.Capsule, Radius: 1 + d.below(1<<14), Half: half},
		{Kind: api.Brick, Radius: d.below(1 << 14), Half: half},
	}
	hull := api.Shape{Kind: api.Hull}
	for range 4 + d.below(9) {
		hull.Points = append(hull.Points, d.point(1<<16))
	}
	if shape.Check(hull) == api.OK {
		l = append(l, hull)
	}
	return l
}

// TestL4Stays: at the pose of nothing a core stays as it is, but that its
// directions are short.
func TestL4Stays(t *testing.T) {
	d := dice(3)
	for range 2000 {
		for _, s := range d.shapes() {
			c := coreOf(t, s)
			placed(t, c, at(0, 0, 0), c) // a shape's directions are short
		}
		c := d.core()
		want := api.Core{Points: c.Points, Radius: c.Radius}
		far := false
		for _, q := range append(append(append([]api.Point{}, c.Points...), c.Axes...), c.Edges...) {
			far = far || max(q.X, -q.X, q.Y, -q.Y, q.Z, -q.Z) > 1<<20
		}
		if far {
			refused(t, c, at(0, 0, 0))
			continue
		}
		want.Axes, want.Edges = shorts(c.Axes), shorts(c.Edges)
		placed(t, c, at(0, 0, 0), want)
	}
}

// shorts are the directions made short, but those of noughts.
func shorts(l []api.Point) []api.Point {
	var out []api.Point
	for _, q := range l {
		if q != (api.Point{}) {
			out = append(out, shape.Short(q))
		}
	}
	return out
}

// TestL4Within: what is within a brick is, wherever both are placed, within the
// brick's Span; so is each point of a core in its own.
func TestL4Within(t *testing.T) {
	d := dice(4)
	for range 5000 {
		half := p(1+d.below(1<<16), 1+d.below(1<<16), 1+d.below(1<<16))
		brick := coreOf(t, api.Shape{Kind: api.Brick, Half: half, Radius: d.below(100)})
		inner := api.Core{Radius: d.below(brick.Radius + 1)}
		for range 20 {
			inner.Points = append(inner.Points, p(d.part(half.X), d.part(half.Y), d.part(half.Z)))
		}
		inner.Points = append(inner.Points, half)
		q := api.Pose{At: v(d.long(42), d.long(42), d.long(42)), Turn: d.whole()}
		outside, ok := pose.Place(brick, q)
		inside, is := pose.Place(inner, q)
		if !ok || !is {
			t.Fatal(brick, q)
		}
		if s := pose.Span(outside); pose.Join(s, pose.Span(inside)) != s || !pose.Meet(s, pose.Span(inside)) {
			t.Fatal(half, q, s, pose.Span(inside))
		}
		least := pose.Span(inside)
		for _, a := range inside.Points {
			b := pose.Grown(api.Box{Min: a, Max: a}, inside.Radius)
			if pose.Join(least, b) != least {
				t.Fatal(a, least)
			}
		}
	}
}

// TestL4Moves: to move by whole grains and to place, or the other way round, is the
// same: by the pose's At whatever the turn, by the core's points without one.
func TestL4Moves(t *testing.T) {
	d := dice(5)
	for range 5000 {
		for _, s := range d.shapes() {
			c, by := coreOf(t, s), d.point(1<<19)
			q := api.Pose{At: v(d.long(42), d.long(42), d.long(42)), Turn: d.whole()}
			first, ok := pose.Place(c, q)
			if !ok {
				t.Fatal(c, q)
			}
			further := q
			further.At = v(q.At.X+by.X<<20, q.At.Y+by.Y<<20, q.At.Z+by.Z<<20)
			placed(t, c, further, pose.Moved(first, by))
			q.Turn = turn(one, 0, 0, 0)
			first, _ = pose.Place(c, q)
			placed(t, pose.Moved(c, by), q, pose.Moved(first, by))
			if a, b := pose.Span(pose.Moved(c, by)), pose.Span(c); a != (api.Box{Min: plus(b.Min, by), Max: plus(b.Max, by)}) {
				t.Error(a, b, by)
			}
		}
		if t.Failed() {
			t.FailNow()
		}
	}
}

func plus(q, r api.Point) api.Point { return p(q.X+r.X, q.Y+r.Y, q.Z+r.Z) }

// TestL3Exactly holds boxes of a small room against the points in them.
func TestL3Exactly(t *testing.T) {
	d := dice(6)
	small := func() api.Box {
		a, b := d.point(3), d.point(3)
		return api.Box{
			Min: p(min(a.X, b.X), min(a.Y, b.Y), min(a.Z, b.Z)),
			Max: p(max(a.X, b.X), max(a.Y, b.Y), max(a.Z, b.Z)),
		}
	}
	in := func(b api.Box, x, y, z int) bool {
		return b.Min.X <= x && x <= b.Max.X && b.Min.Y <= y && y <= b.Max.Y && b.Min.Z <= z && z <= b.Max.Z
	}
	for range 5000 {
		a, b := small(), small()
		both, join := 0, pose.Join(a, b)
		for i := range 7 * 7 * 7 {
			x, y, z := i/49-3, i/7%7-3, i%7-3
			inA, inB := in(a, x, y, z), in(b, x, y, z)
			if inA && inB {
				both++
			}
			if (inA || inB) && !in(join, x, y, z) {
				t.Fatal(a, b, join)
			}
		}
		if pose.Meet(a, b) != (both > 0) || pose.Meet(b, a) != (both > 0) {
			t.Fatal(a, b, both)
		}
	}
}
