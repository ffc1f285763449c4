package shape_test

import (
	"cmp"
	"math/big"
	"slices"
	"testing"

	"tumbler/api"
	"tumbler/shape"
)

// dice tells numbers below n, the same ones each time.
type dice uint64

func (d *dice) below(n int) int {
	*d = *d*6364136223846793005 + 1442695040888963407
	mixed := (uint64(*d) ^ uint64(*d)>>29) * 0xbf58476d1ce4e5b9
	return int(mixed>>1) % n
}

// part is a number of a size of at most n.
func (d *dice) part(n int) int { return d.below(2*n+1) - n }

func (d *dice) point(n int) api.Point { return p(d.part(n), d.part(n), d.part(n)) }

// shuffled is l in some order.
func (d *dice) shuffled(l []api.Point) []api.Point {
	l = slices.Clone(l)
	for i := range l {
		j := i + d.below(len(l)-i)
		l[i], l[j] = l[j], l[i]
	}
	return l
}

// points are 4 to 12 unlike ones: of a small box, where many lie on one line and
// in one plane, or of a great one; at times all but the first few of one plane, or
// of one line.
func (d *dice) points() []api.Point {
	wide := []int{1, 1, 2, 3, 10, 1000, 1 << 16}[d.below(7)]
	u, w, kind, free := d.part(3), d.part(3), d.below(6), d.below(3)
	if kind < 2 {
		wide = min(wide, 1000) // so that what is on the plane, or the line, is not too far
	}
	var l []api.Point
	for n := 4 + d.below(9); len(l) < n; {
		q := d.point(wide)
		switch {
		case kind == 0 && len(l) >= free:
			q.Z = u*q.X + w*q.Y
		case kind == 1 && len(l) >= free:
			q.Y, q.Z = u*q.X, w*q.X
		}
		if slices.Contains(l, q) {
			wide = min(wide+1, 1<<16) // there may be too few
			continue
		}
		l = append(l, q)
	}
	return d.shuffled(l)
}

func exact(n int) *big.Int { return big.NewInt(int64(n)) }

// book is the rules over again, with exact numbers.
type book struct{}

// short divides by what divides all parts, halves all at once, and divides again.
func (b book) short(q api.Point) api.Point {
	parts := []*big.Int{exact(q.X), exact(q.Y), exact(q.Z)}
	most := new(big.Int)
	for _, n := range parts {
		if n.CmpAbs(most) > 0 {
			most.Abs(n)
		}
	}
	if most.Sign() == 0 || most.Cmp(exact(1<<42)) > 0 {
		return api.Point{}
	}
	byAll := func() {
		all := new(big.Int)
		for _, n := range parts {
			all.GCD(nil, nil, all, new(big.Int).Abs(n))
		}
		most.Quo(most, all)
		for _, n := range parts {
			n.Quo(n, all)
		}
	}
	byAll()
	twos := exact(1)
	for new(big.Int).Quo(most, twos).Cmp(exact(1<<20)) > 0 {
		twos.Lsh(twos, 1)
	}
	for _, n := range parts {
		n.Quo(n, twos)
	}
	byAll()
	return p(int(parts[0].Int64()), int(parts[1].Int64()), int(parts[2].Int64()))
}

func (b book) less(q, r api.Point) api.Point { return p(q.X-r.X, q.Y-r.Y, q.Z-r.Z) }

// volume is six times that between a and three others: above 0, if m stands where
// the cross of the ways to j and to k looks to.
func (b book) volume(a, j, k, m api.Point) *big.Int {
	x, y, z := b.less(j, a), b.less(k, a), b.less(m, a)
	of := func(p, q, r, sign int) *big.Int {
		n := new(big.Int).Mul(exact(p*sign), exact(q))
		return n.Mul(n, exact(r))
	}
	sum := new(big.Int)
	for _, n := range []*big.Int{
		of(x.X, y.Y, z.Z, 1), of(x.Y, y.Z, z.X, 1), of(x.Z, y.X, z.Y, 1),
		of(x.Z, y.Y, z.X, -1), of(x.Y, y.X, z.Z, -1), of(x.X, y.Z, z.Y, -1),
	} {
		sum.Add(sum, n)
	}
	return sum
}

// flat asks each four of them.
func (b book) flat(l []api.Point) bool {
	for i, a := range l {
		for j, q := range l[:i] {
			for k, r := range l[:j] {
				for _, m := range l[:k] {
					if b.volume(a, q, r, m).Sign() != 0 {
						return false
					}
				}
			}
		}
	}
	return true
}

// core is a hull's; whether a point is above a face is asked by volumes.
func (b book) core(l []api.Point) (axes, edges []api.Point) {
	for i := range l {
		for j := range l {
			for k := range l {
				if i >= j || j >= k {
					continue
				}
				seen := map[int]int{}
				for _, m := range l {
					seen[b.volume(l[i], l[j], l[k], m).Sign()]++
				}
				if seen[1]+seen[-1] == 0 || seen[1] > 0 && seen[-1] > 0 {
					continue // on one line: all volumes are nought then, as the hull is not flat
				}
				x, y := b.less(l[j], l[i]), b.less(l[k], l[i])
				n := p(x.Y*y.Z-y.Y*x.Z, x.Z*y.X-y.Z*x.X, x.X*y.Y-y.X*x.Y)
				if seen[1] > 0 {
					n = p(-n.X, -n.Y, -n.Z)
				}
				if n = b.short(n); !slices.Contains(axes, n) {
					axes = append(axes, n)
				}
				for _, e := range []api.Point{x, y, b.less(l[k], l[j])} {
					e = b.short(e)
					if !slices.ContainsFunc(edges, func(o api.Point) bool { return o == e || o == p(-e.X, -e.Y, -e.Z) }) {
						edges = append(edges, e)
					}
				}
			}
		}
	}
	return axes, edges
}

// down is the product of the numbers, by 2 so many times, by n, down.
func (b book) down(twos uint, n int, of ...int) int {
	product := exact(1)
	for _, m := range of {
		product.Mul(product, exact(m))
	}
	product.Rsh(product, twos)
	return int(product.Quo(product, exact(n)).Int64())
}

// box is the inertia of these half widths, in grains: a grain's square is 2^8 FX.
func (b book) box(mass, x, y, z int) api.Vec {
	of := func(m, n int) int {
		return max(4096, (b.down(24, 1, mass, m, m)+b.down(24, 1, mass, n, n))/3)
	}
	return v(of(y, z), of(z, x), of(x, y))
}

func (b book) ball(mass, radius int) api.Vec {
	n := max(4096, b.down(0, 5, 2, b.down(24, 1, mass, radius, radius)))
	return v(n, n, n)
}

// halves are half the widths of points, down, with a radius.
func (b book) halves(l []api.Point, radius int) (x, y, z int) {
	of := func(part func(api.Point) int) int {
		var n []int
		for _, q := range l {
			n = append(n, part(q))
		}
		return (slices.Max(n)-slices.Min(n))/2 + radius
	}
	return of(func(q api.Point) int { return q.X }), of(func(q api.Point) int { return q.Y }), of(func(q api.Point) int { return q.Z })
}

// long is a direction with parts of all lengths up to 2^42 and a little beyond.
func (d *dice) long() api.Point {
	part := func() int { return d.part(1 << d.below(43)) }
	q := p(part(), part(), part())
	switch d.below(4) {
	case 0: // something that divides all
		n := 1 + d.below(1000)
		q = p(q.X>>10*n, q.Y>>10*n, q.Z>>10*n)
	case 1: // just around the bounds
		*[]*int{&q.X, &q.Y, &q.Z}[d.below(3)] = []int{1 << 20, -1 << 20, 1 << 21, 1 << 42, -1 << 42}[d.below(5)] + d.part(2)
	}
	return q
}

func TestH1Exactly(t *testing.T) {
	d := dice(1)
	for range 200000 {
		q := d.long()
		short(t, q, book{}.short(q))
		if t.Failed() {
			t.FailNow()
		}
	}
}

// TestH1Small has all directions of small parts.
func TestH1Small(t *testing.T) {
	for x := -13; x <= 13; x++ {
		for y := -13; y <= 13; y++ {
			for z := -13; z <= 13; z++ {
				short(t, p(x, y, z), book{}.short(p(x, y, z)))
			}
		}
	}
}

// TestH5ShortStays: what is short stays so; it is none of noughts, unless all was;
// the other way round it is the other way round.
func TestH5ShortStays(t *testing.T) {
	d := dice(2)
	for range 100000 {
		q := d.long()
		n := shape.Short(q)
		short(t, n, n)
		short(t, p(-q.X, -q.Y, -q.Z), p(-n.X, -n.Y, -n.Z))
		most := max(n.X, -n.X, n.Y, -n.Y, n.Z, -n.Z)
		if far := max(q.X, -q.X, q.Y, -q.Y, q.Z, -q.Z); most > 1<<20 || (most == 0) != (far == 0 || far > 1<<42) {
			t.Fatalf("%v: %v", q, n)
		}
	}
}

// TestH2AndH3Exactly holds hulls against the book, and so the mass of each.
func TestH2AndH3Exactly(t *testing.T) {
	d, b := dice(3), book{}
	flat, whole := 0, 0
	for range 2000 {
		l, r := d.points(), d.below(1<<14+1)
		if b.flat(l) {
			flat++
			refused(t, hull(r, l...), api.ErrShapeFlat)
		} else {
			whole++
			axes, edges := b.core(l)
			core(t, hull(r, l...), l, axes, edges)
			n := api.MinMass + d.below(api.MaxMass-api.MinMass+1)>>d.below(17)
			x, y, z := b.halves(l, r)
			mass(t, hull(r, l...), n, b.box(n, x, y, z))
		}
		if t.Failed() {
			t.FailNow()
		}
	}
	if flat < 200 || whole < 200 {
		t.Errorf("%d flat, %d not", flat, whole)
	}
}

func TestH4Exactly(t *testing.T) {
	d, b := dice(4), book{}
	for range 20000 {
		n := api.MinMass + d.below(api.MaxMass-api.MinMass+1)>>d.below(17)
		r := 1 + d.below(1<<14)>>d.below(14)
		part := func() int { return 1 + d.below(1<<16)>>d.below(16) }
		x, y, z := part(), part(), part()
		mass(t, ball(r), n, b.ball(n, r))
		mass(t, capsule(r, x), n, b.box(n, x+r, r, r))
		mass(t, brick(r, x, y, z), n, b.box(n, x+r, y+r, z+r))
		mass(t, brick(0, x, y, z), n, b.box(n, x, y, z))
		if t.Failed() {
			t.FailNow()
		}
	}
}

func rising(q, r api.Point) int {
	return cmp.Or(cmp.Compare(q.X, r.X), cmp.Compare(q.Y, r.Y), cmp.Compare(q.Z, r.Z))
}

// sorted are the axes of these points, in one order, however they stand; and how
// many edges there are.
func sorted(t *testing.T, l []api.Point) ([]api.Point, int) {
	t.Helper()
	c, e := shape.Core(hull(0, l...))
	if e != api.OK {
		t.Fatal(l, e)
	}
	slices.SortFunc(c.Axes, rising)
	return c.Axes, len(c.Edges)
}

// orders tells l in all orders of what stands from its place k on.
func orders(l []api.Point, k int, tell func([]api.Point)) {
	if k == len(l) {
		tell(slices.Clone(l))
		return
	}
	for i := k; i < len(l); i++ {
		o := slices.Clone(l)
		o[k], o[i] = o[i], o[k]
		orders(o, k+1, tell)
	}
}

// TestH5Order: in whatever order a hull's points stand, its axes are the same ones,
// and at least two.
func TestH5Order(t *testing.T) {
	d, b := dice(5), book{}
	same := func(l, order []api.Point) {
		axes, edges := sorted(t, l)
		if got, n := sorted(t, order); !slices.Equal(got, axes) || n != edges || len(axes) < 2 {
			t.Fatalf("%v: %v and %d edges, not %v and %d", order, got, n, axes, edges)
		}
	}
	for range 400 {
		l := d.points()
		if b.flat(l) {
			refused(t, hull(0, d.shuffled(l)...), api.ErrShapeFlat)
			continue
		}
		for range 5 {
			same(l, d.shuffled(l))
		}
		if len(l) <= 5 {
			orders(l, 0, func(order []api.Point) { same(l, order) })
		}
	}
}

// TestH5Out: the axes look out, each across a face: three points at least are the
// furthest ones along it; and each way has an axis that looks along it. (Of points
// so near that no axis is halved.)
func TestH5Out(t *testing.T) {
	d, b := dice(6), book{}
	along := func(n, q api.Point) int { return n.X*q.X + n.Y*q.Y + n.Z*q.Z }
	for range 2000 {
		l := d.points()
		if b.flat(l) || slices.ContainsFunc(l, func(q api.Point) bool { return max(q.X, -q.X, q.Y, -q.Y, q.Z, -q.Z) > 300 }) {
			continue
		}
		axes, _ := sorted(t, l)
		for _, n := range axes {
			var far []int
			for _, q := range l {
				far = append(far, along(n, q))
			}
			slices.Sort(far)
			if far[len(far)-3] != far[len(far)-1] || far[0] == far[len(far)-1] {
				t.Fatalf("%v: %v is across none of its faces: %v", l, n, far)
			}
		}
		for range 20 {
			way := d.point(100)
			if way != (api.Point{}) && !slices.ContainsFunc(axes, func(n api.Point) bool { return along(n, way) > 0 }) {
				t.Fatalf("%v: none of %v looks along %v", l, axes, way)
			}
		}
	}
}

func inertia(t *testing.T, s api.Shape, mass int) api.Vec {
	t.Helper()
	m, e := shape.Mass(s, mass)
	if e != api.OK {
		t.Fatal(s, mass, e)
	}
	return m.Inertia
}

// TestH5Heavier: a heavier body, and a wider one, has no less inertia.
func TestH5Heavier(t *testing.T) {
	d := dice(7)
	noLess := func(s api.Shape, mass int, wider api.Shape, heavier int) {
		t.Helper()
		m, n := inertia(t, s, mass), inertia(t, wider, heavier)
		if n.X < m.X || n.Y < m.Y || n.Z < m.Z {
			t.Fatalf("%v %d: %v; %v %d: %v", s, mass, m, wider, heavier, n)
		}
	}
	for range 5000 {
		n := api.MinMass + d.below(api.MaxMass-api.MinMass)>>d.below(17)
		more := n + 1 + d.below(api.MaxMass-n)>>d.below(30)
		more = min(more, api.MaxMass)
		r, x, y, z := 1+d.below(1000), 1+d.below(1000), 1+d.below(1000), 1+d.below(1000)
		pairs := [][2]api.Shape{
			{ball(r), ball(r + 1)}, {capsule(r, x), capsule(r+1, x)}, {capsule(r, x), capsule(r, x+1)},
			{brick(r, x, y, z), brick(r+1, x, y, z)}, {brick(r, x, y, z), brick(r, x+1, y, z)},
			{brick(r, x, y, z), brick(r, x, y+1, z)}, {brick(r, x, y, z), brick(r, x, y, z+1)},
			{hull(r, list(0, 0, 0, x, 0, 0, 0, y, 0, 0, 0, z)...), hull(r, list(-1, 0, 0, x+1, 0, 0, 0, y, 0, 0, 0, z)...)},
		}
		for _, two := range pairs {
			noLess(two[0], n, two[0], more)
			noLess(two[0], n, two[1], n)
			noLess(two[0], n, two[1], more)
		}
	}
}

// TestWithinAnything: no call panics, whatever it is handed; what may not be is
// refused with nothing beside it.
func TestWithinAnything(t *testing.T) {
	d := dice(8)
	wild := append(far(), 0, 1, -1, 2, 3, 1<<14, 1<<14+1, 1<<16, -1<<16)
	any := func() int { return wild[d.below(len(wild))] }
	for range 100000 {
		s := api.Shape{Kind: d.below(7) - 1, Radius: any(), Half: p(any(), any(), any())}
		for range d.below(14) {
			s.Points = append(s.Points, p(any(), any(), any()))
		}
		m := any() << 24
		e := shape.Check(s)
		c, coreE := shape.Core(s)
		k, massE := shape.Mass(s, m)
		if coreE != e || e != api.OK && massE != e || (e == api.OK) != (len(c.Points) > 0) || (massE == api.OK) != (k != api.Mass{}) {
			t.Fatalf("%v %d: %d, %v %d, %v %d", s, m, e, c, coreE, k, massE)
		}
		shape.Short(s.Half)
	}
}
