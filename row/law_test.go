package row_test

import (
	"math"
	"reflect"
	"slices"
	"testing"

	"tumbler/api"
	"tumbler/fx"
	"tumbler/row"
	"tumbler/vec"
)

// dice tells numbers, the same ones each time.
type dice uint64

func (d *dice) below(n int) int {
	*d = *d*6364136223846793005 + 1442695040888963407
	mixed := (uint64(*d) ^ uint64(*d)>>29) * 0xbf58476d1ce4e5b9
	return int(mixed>>1) % n
}

// part is a number of a size of at most n.
func (d *dice) part(n int) int { return d.below(2*n+1) - n }

// long is a number of any length up to 2^n.
func (d *dice) long(n int) int { return d.part(1 << d.below(n+1)) }

// number is one of any length up to 2^n; at times it is any at all, or one of the
// ends.
func (d *dice) number(n int) int {
	switch d.below(300) {
	case 0:
		return d.part(1 << 61)
	case 1:
		return []int{most, -most, most + 1, -most - 1, math.MinInt, math.MaxInt, 1 << 61, 0, 1, -1}[d.below(10)]
	}
	return d.long(n)
}

func (d *dice) vec(n int) api.Vec { return v(d.number(n), d.number(n), d.number(n)) }

func (d *dice) tame(n int) api.Vec { return v(d.long(n), d.long(n), d.long(n)) }

// whole is a turn of a Norm of One.
func (d *dice) whole() api.Quat {
	for {
		w := &fx.Work{}
		if x := vec.Whole(w, api.Quat{W: d.part(one), X: d.part(one), Y: d.part(one), Z: d.part(one)}); !w.Bad {
			return x
		}
	}
}

// mass is one that may be; at times any at all.
func (d *dice) mass() api.Mass {
	if d.below(25) == 0 {
		return api.Mass{Mass: d.number(60), Inertia: d.vec(49)}
	}
	inertia := func() int { return 1<<12 + d.below(1<<d.below(49)) }
	return api.Mass{Mass: 1<<24 + d.below(1<<d.below(40)), Inertia: v(inertia(), inertia(), inertia())}
}

// body is mostly Moving, and one that may be.
func (d *dice) body() api.Body {
	b := with(func(b *api.Body) {
		b.Pose, b.P, b.L, b.Mass = api.Pose{At: d.vec(42), Turn: d.whole()}, d.vec(44), d.vec(44), d.mass()
	})
	if d.below(8) == 0 {
		b.Kind = d.below(4)
	}
	return b
}

// row is one of some bodies and rows, or of nobody at times.
func (d *dice) row(bodies, rows int) api.Row {
	r := api.Row{
		A: d.below(bodies+2) - 1, B: d.below(bodies+2) - 1, Way: d.vec(33), ArmA: d.vec(36), ArmB: d.vec(36), Turn: d.below(3) == 0,
		Goal: d.number(36), Low: -d.below(1 << d.below(46)), High: d.below(1 << d.below(46)), Of: -1, Sum: d.number(40),
	}
	switch d.below(12) {
	case 0:
		r.Low, r.High = d.number(44), d.number(44)
	case 1:
		r.Way = api.Vec{}
	}
	if d.below(3) == 0 {
		r.Of, r.Rub = d.below(rows+2)-1, d.number(33)
		if d.below(4) == 0 {
			r.Rub = d.part(1 << 61)
		}
	}
	return r
}

// lists are some bodies and rows.
func (d *dice) lists() lists {
	var x lists
	for range 3 {
		x.l = append(x.l, d.body())
	}
	for range 4 {
		x.rows = append(x.rows, d.row(len(x.l), 4))
	}
	return x
}

func (x lists) copied() lists { return lists{slices.Clone(x.rows), slices.Clone(x.l)} }

// tally counts how many answers could be told, how many could not, and how many
// changed something.
type tally struct{ told, bad, changed int }

// hold holds all calls on one row against the book.
func hold(t *testing.T, count map[string]*tally, x lists, n int) {
	t.Helper()
	against := func(name string, do func(w *fx.Work) any, meant func(b *book) any, none any) {
		t.Helper()
		w, b := &fx.Work{}, &book{}
		got, want := do(w), meant(b)
		if !reflect.DeepEqual(got, want) || w.Bad != b.bad {
			t.Fatalf("%s of %d of %+v: %+v, Bad %v; not %+v, Bad %v", name, n, x, got, w.Bad, want, b.bad)
		}
		if count[name] == nil {
			count[name] = &tally{}
		}
		switch {
		case b.bad:
			count[name].bad++
		case reflect.DeepEqual(got, none):
			count[name].told++
		default:
			count[name].changed++
		}
	}
	r := x.rows[n]
	against("Rate", func(w *fx.Work) any { return row.Rate(w, r, x.l) }, func(b *book) any { return b.rate(r, x.l) }, 0)
	against("Weight", func(w *fx.Work) any { return row.Weight(w, r, x.l) }, func(b *book) any { return b.weight(r, x.l) }, 0)
	against("Ends", func(w *fx.Work) any { low, high := row.Ends(w, x.rows, n); return [2]int{low, high} },
		func(b *book) any { low, high := b.ends(x.rows, n); return [2]int{low, high} }, [2]int{r.Low, r.High})
	against("Wish", func(w *fx.Work) any { return row.Wish(w, x.rows, n, x.l) }, func(b *book) any { return b.wish(x.rows, n, x.l) }, r.Sum)
	against("Solve", func(w *fx.Work) any { y := x.copied(); row.Solve(w, y.rows, n, y.l); return y }, func(b *book) any { return b.solve(x, n) }, x)
}

// TestR1ToR5Exactly holds all calls against exact numbers.
func TestR1ToR5Exactly(t *testing.T) {
	d, count := dice(1), map[string]*tally{}
	for range 6000 {
		x := d.lists()
		for n := range x.rows {
			hold(t, count, x, n)
		}
	}
	for name, x := range count {
		if x.told < 500 || x.bad < 20 || x.changed < 2000 {
			t.Errorf("%s: too few of one kind: %+v", name, *x)
		}
	}
}

func partsOf(a *api.Vec) []*int { return []*int{&a.X, &a.Y, &a.Z} }

// places are all numbers of two bodies and a row, the one of the row ahead with them.
func (x lists) places() []*int {
	r := &x.rows[1]
	l := append(append(partsOf(&r.Way), partsOf(&r.ArmA)...), partsOf(&r.ArmB)...)
	l = append(l, &r.A, &r.B, &r.Goal, &r.Low, &r.High, &r.Of, &r.Rub, &r.Sum, &x.rows[0].Sum)
	for i := range x.l[:2] {
		b := &x.l[i]
		l = append(append(append(l, partsOf(&b.P)...), partsOf(&b.L)...), partsOf(&b.Mass.Inertia)...)
		l = append(l, &b.Mass.Mass, &b.Kind, &b.Pose.Turn.W, &b.Pose.Turn.X, &b.Pose.Turn.Y, &b.Pose.Turn.Z)
	}
	return l
}

// TestR1ToR5AtTheEnds lays what is just within and just beyond into each place.
func TestR1ToR5AtTheEnds(t *testing.T) {
	ends := []int{0, 1, -1, 2, one, -one, 1 << 31, 1 << 54, most, -most, most + 1, -most - 1, math.MaxInt, math.MinInt}
	count := map[string]*tally{}
	start := func(kind int) lists {
		r := api.Row{A: 0, B: 1, Way: v(one, one/2, -one), ArmA: v(one, 0, 2*one), ArmB: v(0, -one, 3*one), Goal: 2 * one, Low: -one, High: one, Of: kind%2 - 1, Rub: one / 2, Sum: 1}
		r.Turn = kind/2%2 == 1
		if kind/4 == 1 {
			r.ArmA, r.ArmB, r.Low, r.High = api.Vec{}, api.Vec{}, -most, most
		}
		return lists{[]api.Row{{Sum: 3 * one}, r, {Sum: one}}, list(some(), slow(), goes(one))}
	}
	for kind := range 8 {
		for place := range start(kind).places() {
			for _, end := range ends {
				x := start(kind)
				*x.places()[place] = end
				hold(t, count, x, 1)
			}
		}
	}
}

// within is whether the n-th row's Sum is within its Ends; not, if they can not be
// told.
func within(x lists, n int) bool {
	w := &fx.Work{}
	low, high := row.Ends(w, x.rows, n)
	return low <= x.rows[n].Sum && x.rows[n].Sum <= high && !w.Bad
}

// TestR6Within: a Sum that was within its Ends stays so; one that was not is so
// behind it, unless the Weight is below 64.
func TestR6Within(t *testing.T) {
	d, stays, comes := dice(2), 0, 0
	for range 8000 {
		x, w := d.lists(), &fx.Work{}
		n := d.below(len(x.rows))
		was, solid := within(x, n), row.Weight(w, x.rows[n], x.l) >= 64
		row.Solve(w, x.rows, n, x.l)
		if w.Bad && !was {
			continue
		}
		if is := within(x, n); is != (was || solid) {
			t.Fatalf("%d of %+v: %v, then %v", n, x, was, is)
		}
		if was {
			stays++
		} else if solid {
			comes++
		}
	}
	if stays < 1000 || comes < 1000 {
		t.Error("too few:", stays, comes)
	}
}

func plus(a, b api.Vec) api.Vec { return v(a.X+b.X, a.Y+b.Y, a.Z+b.Z) }

// tamed are two Moving bodies, a wall and rows of them, all as worlds have them.
func (d *dice) tamed() lists {
	usual := func() api.Body {
		inertia := func() int { return one/4 + d.below(8*one) }
		return with(func(b *api.Body) {
			b.Pose, b.P, b.L = api.Pose{At: d.tame(42), Turn: d.whole()}, d.tame(37), d.tame(35)
			b.Mass = api.Mass{Mass: one/4 + d.below(8*one), Inertia: v(inertia(), inertia(), inertia())}
		})
	}
	x := lists{l: list(usual(), fixed(), usual())}
	for {
		w := &fx.Work{}
		way := vec.Unit(w, v(d.part(one), d.part(one), d.part(one)))
		if w.Bad {
			continue
		}
		x.rows = append(x.rows, api.Row{B: 2, Way: way, ArmA: d.tame(33), ArmB: d.tame(33), Turn: d.below(3) == 0, Goal: d.long(34), High: 1 << 44, Of: -1})
		if r := &x.rows[len(x.rows)-1]; len(x.rows) == 2 {
			r.Of, r.Rub = 0, d.below(one)
		} else if len(x.rows) == 3 {
			r.Low = -1 << 44
			return x
		}
	}
}

// TestR6Momentum: what a row does to one of two it does back to the other one,
// however often, and whoever of both is A: nothing of the sum of P is lost, nor of the
// sum of L by a row that turns.
func TestR6Momentum(t *testing.T) {
	d, moved := dice(3), 0
	for range 300 {
		x, w := d.tamed(), &fx.Work{}
		for range 30 {
			n := d.below(3)
			if r := &x.rows[n]; d.below(2) == 0 {
				r.A, r.B = r.B, r.A
			}
			a, b := x.l[0], x.l[2]
			row.Solve(w, x.rows, n, x.l)
			if plus(x.l[0].P, x.l[2].P) != plus(a.P, b.P) || w.Bad {
				t.Fatalf("%+v: %v and %v, then %v and %v; Bad %v", x.rows[n], a.P, b.P, x.l[0].P, x.l[2].P, w.Bad)
			}
			if x.rows[n].Turn && (plus(x.l[0].L, x.l[2].L) != plus(a.L, b.L) || x.l[0].P != a.P || x.l[2].P != b.P) {
				t.Fatalf("%+v: %v and %v, then %v and %v", x.rows[n], a.L, b.L, x.l[0].L, x.l[2].L)
			}
			if !reflect.DeepEqual(x.l[1], fixed()) {
				t.Fatal("a wall has moved:", x.l[1])
			}
			if x.l[0].P != a.P || x.l[0].L != a.L {
				moved++
			}
		}
	}
	if moved < 3000 {
		t.Error("too few were moved:", moved)
	}
}

// TestR6Nothing: a row of which nothing is to be wished changes nothing; nor does one
// that could not be told.
func TestR6Nothing(t *testing.T) {
	d, nothing, bad := dice(4), 0, 0
	for range 8000 {
		x, w := d.lists(), &fx.Work{}
		n := d.below(len(x.rows))
		y := x.copied()
		same := row.Wish(&fx.Work{}, x.rows, n, x.l) == x.rows[n].Sum
		row.Solve(w, y.rows, n, y.l)
		if (w.Bad || same) && !reflect.DeepEqual(x, y) {
			t.Fatalf("%d of %+v: %+v", n, x, y)
		}
		if w.Bad {
			bad++
		} else if same {
			nothing++
		}
	}
	if nothing < 500 || bad < 500 {
		t.Error("too few:", nothing, bad)
	}
}

// TestR6Alone: what a row does hangs on it, the row that it rubs for, and both bodies
// alone: the same comes out of other lists, at other places.
func TestR6Alone(t *testing.T) {
	d, moved := dice(5), 0
	for range 4000 {
		x := d.lists()
		x.rows[1] = d.row(2, 0)
		x.rows[1].Of, x.rows[1].Rub = d.below(2)-1, d.below(2*one)
		other := lists{append([]api.Row{d.row(5, 5), d.row(5, 5)}, x.rows[:2]...), list(d.body(), x.l[1], d.body(), x.l[0])}
		r := &other.rows[3]
		r.A, r.B = places(r.A), places(r.B)
		if r.Of == 0 {
			r.Of = 2
		}
		before := other.copied()
		was, u, w := x.copied(), &fx.Work{}, &fx.Work{}
		row.Solve(u, x.rows, 1, x.l[:2])
		row.Solve(w, other.rows, 3, other.l)
		if u.Bad != w.Bad || x.rows[1].Sum != other.rows[3].Sum || !reflect.DeepEqual(x.l[:2], list(other.l[3], other.l[1])) {
			t.Fatalf("%+v: %+v, and %+v: %+v", was, x, before, other)
		}
		if !reflect.DeepEqual(was.l, x.l) {
			moved++
		}
		other.rows[3].Sum, other.l[1], other.l[3] = before.rows[3].Sum, before.l[1], before.l[3]
		if !reflect.DeepEqual(other, before) {
			t.Fatalf("another one has changed: %+v, not %+v", other, before)
		}
	}
	if moved < 1000 {
		t.Error("too few were moved:", moved)
	}
}

// places tells where TestR6Alone puts the bodies 0 and 1.
func places(n int) int {
	switch n {
	case 0:
		return 3
	case 1:
		return 1
	}
	return n * 9
}

// TestMeets: a row that has no ends is met: behind it the rate is its Goal, but for
// what was rounded.
func TestMeets(t *testing.T) {
	d := dice(6)
	for range 4000 {
		x, w := d.tamed(), &fx.Work{}
		r := &x.rows[2]
		switch d.below(4) {
		case 0:
			r.A = 1 // the wall
		case 1:
			r.B = -1
		}
		row.Solve(w, x.rows, 2, x.l)
		if off := row.Rate(w, *r, x.l) - r.Goal; off < -1<<12 || off > 1<<12 || w.Bad {
			t.Fatalf("%+v: off by %d, Bad %v", *r, off, w.Bad)
		}
	}
}
