package sweep_test

import (
	"math"
	"math/big"
	"slices"
	"testing"

	"tumbler/api"
	"tumbler/fx"
	"tumbler/narrow"
	"tumbler/pose"
	"tumbler/shape"
	"tumbler/sweep"
	"tumbler/vec"
)

// dice tells numbers below n, the same ones each time.
type dice uint64

func (d *dice) below(n int) int {
	*d = *d*6364136223846793005 + 1442695040888963407
	mixed := (uint64(*d) ^ uint64(*d)>>29) * 0xbf58476d1ce4e5b9
	return int(mixed>>1) % n
}

// part is a number of a size of at most n.
func (d *dice) part(n int) int { return d.below(2*n+1) - n }

func (d *dice) point(n int) api.Point { return p(d.part(n), d.part(n), d.part(n)) }

// some are up to n points, of parts of a size of up to wide.
func (d *dice) some(n, wide int) []api.Point {
	var l []api.Point
	for range d.below(n + 1) {
		l = append(l, d.point(wide))
	}
	return l
}

// core is one that may be: of few points or of many, near or far, with directions that
// are small or great; at times with as many as may be.
func (d *dice) core() api.Core {
	near := []int{3, 10, 30, 1000, 1 << 16, 1 << 24}[d.below(6)]
	c := api.Core{Points: append(d.some([]int{0, 1, 3, 8, 15}[d.below(5)], near), d.point(near))}
	wide := []int{1, 3, 1000, 1 << 20}[d.below(4)]
	c.Axes, c.Edges = d.some(3, wide), d.some(3, wide)
	c.Radius = d.below(1+near) % (1<<16 + 1)
	return c
}

// full is the core with many axes, or edges.
func (d *dice) full(c api.Core) api.Core {
	many := []*[]api.Point{&c.Axes, &c.Edges}[d.below(2)]
	for range 122 + d.below(4) {
		*many = append(*many, d.point(5))
	}
	return c
}

// spoiled is the core with one thing in it that is just at a bound, or beyond it.
func (d *dice) spoiled(c api.Core) api.Core {
	at := func(most int) int { return []int{most, -most, most + 1, -most - 1}[d.below(4)] }
	with := func(l []api.Point, most int) []api.Point {
		q := d.point(9)
		*[]*int{&q.X, &q.Y, &q.Z}[d.below(3)] = at(most)
		return append(l[:len(l):len(l)], q)
	}
	switch d.below(5) {
	case 0:
		c.Points = with(c.Points[:len(c.Points)-1], 1<<24)
	case 1:
		c.Axes = with(c.Axes, 1<<20)
	case 2:
		c.Edges = with(c.Edges, 1<<20)
	case 3:
		c.Points = append(make([]api.Point, 15+d.below(3)), c.Points[0])
	default:
		c.Radius = []int{-1, 1<<16 + 1, 1 << 16, 0}[d.below(4)]
	}
	return c
}

// way is one that may be; beyond the bound at times.
func (d *dice) way() api.Point {
	q := d.point([]int{0, 1, 20, 100, 3000, 1 << 18, 1 << 22}[d.below(7)])
	switch d.below(12) {
	case 0:
		*[]*int{&q.X, &q.Y, &q.Z}[d.below(3)] = []int{1 << 22, -1 << 22, 1<<22 + 1, -1<<22 - 1}[d.below(4)]
	case 1:
		return p(q.X, 0, 0)
	case 2:
		return p(0, q.Y, q.Z)
	}
	return q
}

// toward is a way from one point for another one: it ends ahead of it, or behind it,
// and goes past it at times.
func (d *dice) toward(from, to api.Point) api.Point {
	times, wide := 4+d.below(40), d.point(1<<d.below(10))
	return p((to.X-from.X)*times/8+wide.X, (to.Y-from.Y)*times/8+wide.Y, (to.Z-from.Z)*times/8+wide.Z)
}

// turn is one of a Norm of One.
func (d *dice) turn() api.Quat {
	for {
		w := &fx.Work{}
		q := vec.Whole(w, api.Quat{W: d.part(api.One), X: d.part(api.One), Y: d.part(api.One), Z: d.part(api.One)})
		if !w.Bad {
			return q
		}
	}
}

// placed is a shape's core, within so many grains, turned or not.
func (d *dice) placed(t *testing.T, far int) api.Core {
	t.Helper()
	wide := []int{9, 300, 5000}[d.below(3)]
	s := api.Shape{Kind: 1 + d.below(4), Radius: 1 + d.below([]int{5, 100, 1000}[d.below(3)]), Half: p(1+d.below(wide), 1+d.below(wide), 1+d.below(wide))}
	for range 4 + d.below(9) {
		s.Points = append(s.Points, d.point(wide))
	}
	if shape.Check(s) != api.OK {
		s.Kind = api.Brick
	}
	turn := d.turn()
	if d.below(3) == 0 {
		turn = api.Quat{W: api.One}
	}
	at := d.point(far)
	c, ok := pose.Place(coreOf(t, s), api.Pose{At: api.Vec{X: at.X << 20, Y: at.Y << 20, Z: at.Z<<20 + d.below(1<<20)}, Turn: turn})
	if !ok {
		t.Fatal(s, at)
	}
	return c
}

// book is the rules over again, of exact numbers. What layer 9 tells is taken from it.
type book struct{}

func (b book) number(n int) *big.Int { return big.NewInt(int64(n)) }

func (b book) parts(q api.Point) [3]*big.Int {
	return [3]*big.Int{b.number(q.X), b.number(q.Y), b.number(q.Z)}
}

func (b book) point(parts [3]*big.Int) api.Point {
	return p(int(parts[0].Int64()), int(parts[1].Int64()), int(parts[2].Int64()))
}

// along is n . q.
func (b book) along(n, q api.Point) *big.Int {
	sum := new(big.Int)
	x, y := b.parts(n), b.parts(q)
	for i := range 3 {
		sum.Add(sum, new(big.Int).Mul(x[i], y[i]))
	}
	return sum
}

// great is whether a part's size is above most; the least int's is no int.
func (b book) great(q api.Point, most int) bool {
	for _, n := range b.parts(q) {
		if n.CmpAbs(b.number(most)) > 0 {
			return true
		}
	}
	return false
}

func (b book) anyGreat(l []api.Point, most int) bool {
	return slices.ContainsFunc(l, func(q api.Point) bool { return b.great(q, most) })
}

func (b book) mayBe(c api.Core) bool {
	return len(c.Points) >= 1 && len(c.Points) <= 32 && len(c.Axes) <= 128 && len(c.Edges) <= 128 && c.Radius >= 0 && c.Radius <= 1<<16 &&
		!b.anyGreat(c.Points, 1<<24) && !b.anyGreat(c.Axes, 1<<20) && !b.anyGreat(c.Edges, 1<<20)
}

// divided is each part by what divides all of them.
func (b book) divided(x [3]*big.Int) {
	common := new(big.Int)
	for _, n := range x {
		common.GCD(nil, nil, common, new(big.Int).Abs(n))
	}
	if common.Sign() > 0 {
		for _, n := range x {
			n.Quo(n, common)
		}
	}
}

func (b book) short(x [3]*big.Int) api.Point {
	b.divided(x)
	for b.great(b.point(x), 1<<20) {
		for _, n := range x {
			n.Quo(n, b.number(2))
		}
	}
	b.divided(x)
	return b.point(x)
}

func (b book) cross(q, r api.Point) [3]*big.Int {
	x, y := b.parts(q), b.parts(r)
	var out [3]*big.Int
	for i := range 3 {
		j, k := (i+1)%3, (i+2)%3
		out[i] = new(big.Int).Mul(x[j], y[k])
		out[i].Sub(out[i], new(big.Int).Mul(x[k], y[j]))
	}
	return out
}

// first are those of the directions that are some, at most 128.
func (b book) first(l []api.Point) []api.Point {
	l = slices.DeleteFunc(l, func(n api.Point) bool { return n == (api.Point{}) })
	return l[:min(128, len(l))]
}

func (b book) trail(a api.Core, way api.Point, part int) api.Core {
	if !b.mayBe(a) || b.great(way, 1<<22) || len(a.Points) > 16 || part < 0 || part > 16 {
		return api.Core{}
	}
	by := b.parts(way)
	for _, n := range by {
		n.Mul(n, b.number(part))
		n.Quo(n, b.number(16))
	}
	out := api.Core{Points: slices.Clone(a.Points), Axes: slices.Clone(a.Axes), Edges: slices.Clone(a.Edges), Radius: a.Radius}
	for _, q := range a.Points {
		at := b.parts(q)
		for i, n := range at {
			n.Add(n, by[i])
		}
		out.Points = append(out.Points, b.point(at))
	}
	along := b.short(b.parts(way))
	for _, e := range a.Edges {
		out.Axes = append(out.Axes, b.short(b.cross(e, along)))
	}
	out.Edges = append(out.Edges, along)
	out.Axes, out.Edges = b.first(out.Axes), b.first(out.Edges)
	return out
}

// cast asks all trails ahead of all else.
func (b book) cast(a api.Core, way api.Point, c api.Core) (int, api.Apart, bool) {
	if !b.mayBe(a) || !b.mayBe(c) || b.great(way, 1<<22) || len(a.Points) > 16 {
		return 0, api.Apart{}, false
	}
	var all []api.Apart
	for part := range 17 {
		trail := b.trail(a, way, part)
		if b.anyGreat(trail.Points, 1<<24) {
			return 0, api.Apart{}, false
		}
		if part == 0 {
			trail = a
		}
		x, _ := narrow.Apart(trail, c)
		all = append(all, x)
	}
	in := slices.IndexFunc(all, func(x api.Apart) bool { return x.Gap < 0 })
	switch in {
	case -1:
		return 16, all[16], true
	case 0:
		return 0, all[0], true
	}
	return in - 1, all[in-1], true
}

func (b book) over(a api.Core, l []api.Core) []int {
	var out []int
	for i, c := range l {
		if b.mayBe(a) && b.mayBe(c) {
			if x, _ := narrow.Apart(a, c); x.Gap <= 0 {
				out = append(out, i)
			}
		}
	}
	return out
}

// near goes from the last one to the first one.
func (b book) near(a api.Core, l []api.Core) (int, api.Apart, bool) {
	place, best := -1, api.Apart{}
	for i, c := range slices.Backward(l) {
		if b.mayBe(a) && b.mayBe(c) {
			if x, _ := narrow.Apart(a, c); place < 0 || x.Gap <= best.Gap {
				place, best = i, x
			}
		}
	}
	return place, best, place >= 0
}

func (b book) ray(from, way api.Point, l []api.Core) (int, int, bool) {
	if b.great(from, 1<<24) || b.great(way, 1<<22) {
		return -1, 0, false
	}
	place, least := -1, 16
	for i, c := range slices.Backward(l) {
		if part, _, ok := b.cast(api.Core{Points: []api.Point{from}}, way, c); ok && part < 16 && part <= least {
			place, least = i, part
		}
	}
	return place, least, place >= 0
}

// agreeTrail holds Trail against the book.
func (b book) agreeTrail(t *testing.T, a api.Core, way api.Point, part int) api.Core {
	t.Helper()
	got, want := sweep.Trail(a, way, part), b.trail(a, way, part)
	if !same(got, want) {
		t.Fatalf("Trail %v %v %d: %v, not %v", a, way, part, got, want)
	}
	return got
}

func (b book) agreeCast(t *testing.T, a api.Core, way api.Point, c api.Core) (int, bool) {
	t.Helper()
	part, x, ok := sweep.Cast(a, way, c)
	if want, y, is := b.cast(a, way, c); part != want || x != y || ok != is {
		t.Fatalf("Cast %v %v %v: %d %v %v, not %d %v %v", a, way, c, part, x, ok, want, y, is)
	}
	return part, ok
}

func (b book) agreeLists(t *testing.T, a api.Core, l []api.Core) int {
	t.Helper()
	over := sweep.Over(a, l)
	if want := b.over(a, l); !slices.Equal(over, want) {
		t.Fatalf("Over %v %v: %v, not %v", a, l, over, want)
	}
	place, x, ok := sweep.Near(a, l)
	if want, y, is := b.near(a, l); place != want || x != y || ok != is {
		t.Fatalf("Near %v %v: %d %v %v, not %d %v %v", a, l, place, x, ok, want, y, is)
	}
	return len(over)
}

func (b book) agreeRay(t *testing.T, from, way api.Point, l []api.Core) (int, bool) {
	t.Helper()
	place, part, ok := sweep.Ray(from, way, l)
	if want, n, is := b.ray(from, way, l); place != want || part != n || ok != is {
		t.Fatalf("Ray %v %v %v: %d %d %v, not %d %d %v", from, way, l, place, part, ok, want, n, is)
	}
	return part, ok
}

func TestW1Exactly(t *testing.T) {
	d := dice(1)
	given, cut := 0, 0
	for range 12000 {
		a := d.core()
		switch d.below(8) {
		case 0:
			a = d.spoiled(a)
		case 1:
			a = d.full(a)
		}
		trail := book{}.agreeTrail(t, a, d.way(), d.below(19)-1)
		if len(trail.Points) > 0 {
			given++
		}
		if len(trail.Axes) == 128 {
			cut++
		}
	}
	if given < 8000 || cut < 200 {
		t.Error(given, cut)
	}
}

func TestW2Exactly(t *testing.T) {
	d := dice(2)
	var by [17]int
	refused := 0
	for range 1800 {
		a, c, way := d.core(), d.core(), d.way()
		if d.below(2) == 0 { // the other one stands near somewhere on the way
			c = d.core()
			at, to := a.Points[0], d.below(20)
			c = pose.Moved(c, p(at.X+way.X/16*to-c.Points[0].X, at.Y+way.Y/16*to-c.Points[0].Y, at.Z+way.Z/16*to-c.Points[0].Z))
			if len(c.Points) == 0 { // too far away to be moved there
				continue
			}
		}
		switch d.below(12) {
		case 0:
			a = d.spoiled(a)
		case 1:
			c = d.spoiled(c)
		}
		part, ok := book{}.agreeCast(t, a, way, c)
		if ok {
			by[part]++
		} else {
			refused++
		}
	}
	for part, n := range by {
		if n < 5 {
			t.Error(n, "have the part", part)
		}
	}
	if refused < 200 {
		t.Error(refused)
	}
}

func TestW3Exactly(t *testing.T) {
	d := dice(3)
	met := 0
	for range 1500 {
		var l []api.Core
		for range d.below(8) {
			c := d.core()
			if d.below(8) == 0 {
				c = d.spoiled(c)
			}
			l = append(l, c)
			if d.below(6) == 0 {
				l = append(l, c) // one that is as near
			}
		}
		a := d.core()
		if d.below(20) == 0 {
			a = d.spoiled(a)
		}
		met += book{}.agreeLists(t, a, l)
	}
	if met < 500 {
		t.Error(met)
	}
}

func TestW4Exactly(t *testing.T) {
	d := dice(4)
	var by [17]int
	for range 300 {
		var l []api.Core
		for range d.below(5) {
			c := d.placed(t, 9000)
			if d.below(8) == 0 {
				c = d.spoiled(c)
			}
			l = append(l, c)
			if d.below(6) == 0 {
				l = append(l, c)
			}
		}
		from, way := d.point(9000), d.way()
		if len(l) > 0 && len(l[0].Points) > 0 && d.below(8) > 0 {
			way = d.toward(from, l[0].Points[0])
		}
		switch d.below(20) {
		case 0:
			from = d.point(1<<24 + 1<<22)
		case 1, 2:
			if len(l) > 0 {
				from = l[len(l)-1].Points[0] // within it
			}
		}
		if part, ok := (book{}).agreeRay(t, from, way, l); ok {
			by[part]++
		} else {
			by[16]++
		}
	}
	had := 0
	for _, n := range by {
		had += min(n, 1)
	}
	if had < 14 || by[0] < 10 || by[16] < 20 {
		t.Error(by)
	}
}

// TestW5Proof: what Cast tells is a proof for each moment of the way up to the part, by
// exact numbers: n . (q - p) is at least the Gap and both Radii times the upper size,
// p being a point of the core that has gone i of 7 of the way by the part.
func TestW5Proof(t *testing.T) {
	d := dice(5)
	var some, ended int
	for range 700 {
		a, c := d.placed(t, 6000), d.placed(t, 6000)
		way := d.toward(a.Points[0], c.Points[0])
		part, x, ok := sweep.Cast(a, way, c)
		if !ok {
			t.Fatal(a, way, c)
		}
		if x.Gap < 0 {
			if part != 0 {
				t.Fatal(a, way, c, part, x)
			}
			continue
		}
		some++
		if part < 16 {
			ended++
		}
		b := book{}
		_, up := narrow.Sizes(x.Axis)
		least := new(big.Int).Mul(b.number(7*(x.Gap+a.Radius+c.Radius)), b.number(up))
		by := p(way.X*part/16, way.Y*part/16, way.Z*part/16)
		for i := range 8 {
			for _, q := range a.Points {
				at := p(7*q.X+i*by.X, 7*q.Y+i*by.Y, 7*q.Z+i*by.Z)
				for _, r := range c.Points {
					if b.along(x.Axis, p(7*r.X-at.X, 7*r.Y-at.Y, 7*r.Z-at.Z)).Cmp(least) < 0 {
						t.Fatal(a, way, c, part, x, i)
					}
				}
			}
		}
	}
	if some < 200 || ended < 30 {
		t.Error(some, ended)
	}
}

// nearest is whether all of the way from one point to another one is at least so far
// from a third one.
func (b book) nearest(from, to, q api.Point, far int) bool {
	way, there := p(to.X-from.X, to.Y-from.Y, to.Z-from.Z), p(q.X-from.X, q.Y-from.Y, q.Z-from.Z)
	square := new(big.Int).Mul(b.number(far), b.number(far))
	back := p(q.X-to.X, q.Y-to.Y, q.Z-to.Z)
	if b.along(there, there).Cmp(square) < 0 || b.along(back, back).Cmp(square) < 0 {
		return false
	}
	foot, length := b.along(way, there), b.along(way, way)
	if foot.Sign() <= 0 || foot.Cmp(length) >= 0 {
		return true
	}
	room := new(big.Int).Mul(b.along(there, there), length)
	room.Sub(room, new(big.Int).Mul(foot, foot))
	return room.Cmp(square.Mul(square, length)) >= 0
}

// TestW5Balls: of balls the way up to the part is apart by what is told, whatever tells
// it; and one part more would not be, but for a few grains.
func TestW5Balls(t *testing.T) {
	d := dice(6)
	ended := 0
	for range 8000 {
		a, c := ball(d.below(300), d.part(900), d.part(900), d.part(900)), ball(d.below(300), d.part(900), d.part(900), d.part(900))
		way := d.toward(a.Points[0], c.Points[0])
		part, x, ok := sweep.Cast(a, way, c)
		if !ok {
			t.Fatal(a, way, c)
		}
		to := func(part int) api.Point {
			return p(a.Points[0].X+way.X*part/16, a.Points[0].Y+way.Y*part/16, a.Points[0].Z+way.Z*part/16)
		}
		if x.Gap >= 0 && !(book{}).nearest(a.Points[0], to(part), c.Points[0], x.Gap+a.Radius+c.Radius) {
			t.Fatal(a, way, c, part, x)
		}
		if part < 16 && x.Gap >= 0 {
			ended++
			if (book{}).nearest(a.Points[0], to(part+1), c.Points[0], 3+a.Radius+c.Radius) {
				t.Fatal(a, way, c, part, x)
			}
		}
	}
	if ended < 300 {
		t.Error(ended)
	}
}

// TestW5Ray: a Ray's part is free of all cores; and of the one that is told it is the
// last part that is.
func TestW5Ray(t *testing.T) {
	d := dice(7)
	met := 0
	for range 300 {
		var l []api.Core
		for range 1 + d.below(4) {
			l = append(l, d.placed(t, 9000))
		}
		from := d.point(9000)
		way := d.toward(from, l[0].Points[0])
		a := api.Core{Points: []api.Point{from}}
		place, part, ok := sweep.Ray(from, way, l)
		for i, c := range l {
			x := apart(t, sweep.Trail(a, way, part), c)
			if x.Gap < 0 && part > 0 || ok && x.Gap < 0 && apart(t, a, c).Gap >= 0 {
				t.Fatal(from, way, l, place, part, i, x)
			}
		}
		if !ok {
			continue
		}
		met++
		if x := apart(t, sweep.Trail(a, way, part+1), l[place]); x.Gap >= 0 && apart(t, a, l[place]).Gap >= 0 {
			t.Fatal(from, way, l, place, part, x)
		}
	}
	if met < 100 {
		t.Error(met)
	}
}

// TestW5Over: who is Over something is less than a grain from it by its direction, and
// who is not is a grain away at least.
func TestW5Over(t *testing.T) {
	d := dice(8)
	over, not := 0, 0
	for range 700 {
		a := d.placed(t, 1000)
		l := []api.Core{d.placed(t, 3000), d.placed(t, 300), d.placed(t, 1000)}
		places := sweep.Over(a, l)
		for i, c := range l {
			x := apart(t, a, c)
			_, up := narrow.Sizes(x.Axis)
			_, high := narrow.Reach(a, x.Axis)
			low, _ := narrow.Reach(c, x.Axis)
			near := low-high < (1+a.Radius+c.Radius)*up
			if slices.Contains(places, i) != near {
				t.Fatal(a, c, x, places)
			}
			if near {
				over++
			} else {
				not++
			}
		}
	}
	if over < 300 || not < 300 {
		t.Error(over, not)
	}
}

// TestW5Moved: to move all by the same grains changes nothing.
func TestW5Moved(t *testing.T) {
	d := dice(9)
	for range 200 {
		a, c, way, by := d.placed(t, 3000), d.placed(t, 3000), d.point(6000), d.point(1<<22)
		part, x, _ := sweep.Cast(a, way, c)
		if n, y, ok := sweep.Cast(pose.Moved(a, by), way, pose.Moved(c, by)); !ok || n != part || x != y {
			t.Fatal(a, way, c, by, part, x, n, y)
		}
	}
}

// TestWithinAnything: no call panics, whatever it is handed; what may not be is
// refused with nothing beside it.
func TestWithinAnything(t *testing.T) {
	d := dice(10)
	wild := []int{0, 1, -1, 2, -3, 1 << 14, 1 << 16, 1<<16 + 1, 1 << 20, 1<<20 + 1, -1 << 20, 1 << 22, -1 << 22, 1<<22 + 1, 1 << 24, -1 << 24, 1<<24 + 1,
		1 << 26, -1 << 26, 1<<26 + 1, 1 << 32, 1 << 42, 1 << 62, math.MaxInt, math.MinInt}
	any := func(few int) int { return wild[d.below(few)] }
	some := func(few, many int) []api.Point {
		var l []api.Point
		for range d.below(many) {
			l = append(l, p(any(few), any(few), any(few)))
		}
		return l
	}
	core := func(few int) api.Core {
		return api.Core{Points: some(few, 5), Axes: some(few, 3), Edges: some(few, 3), Radius: any(few)}
	}
	taken := 0
	for range 8000 {
		few := 4 + d.below(len(wild)-3)
		a, c := core(few), core(few)
		way := p(any(few), any(few), any(few))
		book{}.agreeTrail(t, a, way, []int{any(len(wild)), d.below(17)}[d.below(2)])
		if _, ok := (book{}).agreeCast(t, a, way, c); ok {
			taken++
		}
		l := []api.Core{c, core(few)}
		book{}.agreeLists(t, a, l)
		book{}.agreeRay(t, p(any(few), any(few), any(few)), way, l)
	}
	if taken < 300 {
		t.Error(taken)
	}
}
