package vec_test

import (
	"math"
	"math/big"
	"testing"

	"tumbler/api"
	"tumbler/fx"
	"tumbler/vec"
)

// dice tells numbers of all lengths, the same ones each time.
type dice uint64

func (d *dice) any() int {
	*d = *d*6364136223846793005 + 1442695040888963407
	mixed := (uint64(*d) ^ uint64(*d)>>29) * 0xbf58476d1ce4e5b9
	return int(mixed) >> (mixed >> 7 % 64)
}

// below is a number of a size below n.
func (d *dice) below(n int) int {
	d.any()
	return int(uint64(*d)>>1)%(2*n-1) - n + 1
}

// part is mostly of a usual size, at times a very great one.
func (d *dice) part() int {
	if d.below(8) == 0 {
		return d.any()
	}
	return d.any() >> 20
}

func (d *dice) vec() api.Vec { return v(d.part(), d.part(), d.part()) }

func (d *dice) turn() api.Quat { return q(d.part(), d.part(), d.part(), d.part()) }

func exact(n int) *big.Int { return big.NewInt(int64(n)) }

// book is the rules over again, with exact numbers; it is bad where a work
// would be.
type book struct{ bad bool }

func (b *book) tell(n *big.Int) int {
	if n.CmpAbs(exact(most)) > 0 {
		b.bad = true
		return 0
	}
	return int(n.Int64())
}

func (b *book) down(n, by *big.Int) int {
	return b.tell(new(big.Int).Div(n, by)) // Euclid's: of a divisor above 0 it is down
}

// of is the sum of products, each with its sign and times many, by One.
func (b *book) of(many int, terms ...[3]int) int {
	sum := new(big.Int)
	for _, x := range terms {
		sum.Add(sum, new(big.Int).Mul(exact(x[0]*many), new(big.Int).Mul(exact(x[1]), exact(x[2]))))
	}
	return b.down(sum, exact(one))
}

func (b *book) norm(l ...int) int {
	sum := new(big.Int)
	for _, n := range l {
		sum.Add(sum, new(big.Int).Mul(exact(n), exact(n)))
	}
	return b.tell(sum.Sqrt(sum))
}

func (b *book) over(n, by int) int {
	if by == 0 {
		b.bad = true
		return 0
	}
	return b.down(new(big.Int).Lsh(exact(n), 32), exact(by))
}

// within marks the book, if a number that is handed in is too great.
func (b *book) within(l ...int) {
	for _, n := range l {
		b.tell(exact(n))
	}
}

func (b *book) cross(x, y api.Vec) api.Vec {
	return v(
		b.of(1, [3]int{1, x.Y, y.Z}, [3]int{-1, x.Z, y.Y}),
		b.of(1, [3]int{1, x.Z, y.X}, [3]int{-1, x.X, y.Z}),
		b.of(1, [3]int{1, x.X, y.Y}, [3]int{-1, x.Y, y.X}),
	)
}

func (b *book) unit(a api.Vec) api.Vec {
	n := b.norm(a.X, a.Y, a.Z)
	return v(b.over(a.X, n), b.over(a.Y, n), b.over(a.Z, n))
}

func (b *book) times(x, y api.Quat) api.Quat {
	return q(
		b.of(1, [3]int{1, x.W, y.W}, [3]int{-1, x.X, y.X}, [3]int{-1, x.Y, y.Y}, [3]int{-1, x.Z, y.Z}),
		b.of(1, [3]int{1, x.W, y.X}, [3]int{1, x.X, y.W}, [3]int{1, x.Y, y.Z}, [3]int{-1, x.Z, y.Y}),
		b.of(1, [3]int{1, x.W, y.Y}, [3]int{1, x.Y, y.W}, [3]int{1, x.Z, y.X}, [3]int{-1, x.X, y.Z}),
		b.of(1, [3]int{1, x.W, y.Z}, [3]int{1, x.Z, y.W}, [3]int{1, x.X, y.Y}, [3]int{-1, x.Y, y.X}),
	)
}

func (b *book) whole(a api.Quat) api.Quat {
	n := b.norm(a.W, a.X, a.Y, a.Z)
	b.bad = b.bad || n < 1<<31
	return q(b.over(a.W, n), b.over(a.X, n), b.over(a.Y, n), b.over(a.Z, n))
}

func (b *book) rows(a api.Quat) api.Mat {
	for _, n := range []int{a.W, a.X, a.Y, a.Z} {
		b.tell(new(big.Int).Lsh(exact(n), 1))
	}
	less := func(x, y int) int {
		return b.tell(new(big.Int).Sub(exact(one), exact(b.of(2, [3]int{1, x, x}, [3]int{1, y, y}))))
	}
	mixed := func(sign, x, y, z int) int { return b.of(2, [3]int{1, x, y}, [3]int{sign, a.W, z}) }
	return api.Mat{
		v(less(a.Y, a.Z), mixed(-1, a.X, a.Y, a.Z), mixed(1, a.X, a.Z, a.Y)),
		v(mixed(1, a.X, a.Y, a.Z), less(a.X, a.Z), mixed(-1, a.Y, a.Z, a.X)),
		v(mixed(-1, a.X, a.Z, a.Y), mixed(1, a.Y, a.Z, a.X), less(a.X, a.Y)),
	}
}

func (b *book) turn(m api.Mat, a api.Vec) api.Vec {
	row := func(r api.Vec) int { return b.of(1, [3]int{1, r.X, a.X}, [3]int{1, r.Y, a.Y}, [3]int{1, r.Z, a.Z}) }
	return v(row(m[0]), row(m[1]), row(m[2]))
}

func (b *book) back(m api.Mat, a api.Vec) api.Vec {
	return v(
		b.of(1, [3]int{1, m[0].X, a.X}, [3]int{1, m[1].X, a.Y}, [3]int{1, m[2].X, a.Z}),
		b.of(1, [3]int{1, m[0].Y, a.X}, [3]int{1, m[1].Y, a.Y}, [3]int{1, m[2].Y, a.Z}),
		b.of(1, [3]int{1, m[0].Z, a.X}, [3]int{1, m[1].Z, a.Y}, [3]int{1, m[2].Z, a.Z}),
	)
}

// same holds a call against the book.
func same[T comparable](t *testing.T, name string, parts []int, do func(w *fx.Work) T, meant func(b *book) T) {
	t.Helper()
	b := &book{}
	b.within(parts...)
	want := meant(b)
	if b.bad {
		want = *new(T)
	}
	w := &fx.Work{}
	if got := do(w); got != want || w.Bad != b.bad {
		t.Fatalf("%s of %v: %v, Bad %v; not %v, Bad %v", name, parts, got, w.Bad, want, b.bad)
	}
}

func partsOf(l ...api.Vec) []int {
	var out []int
	for _, a := range l {
		out = append(out, a.X, a.Y, a.Z)
	}
	return out
}

func sameVectors(t *testing.T, a, c api.Vec) {
	t.Helper()
	two, mine := partsOf(a, c), partsOf(a)
	same(t, "Add", two, func(w *fx.Work) api.Vec { return vec.Add(w, a, c) }, func(b *book) api.Vec {
		return v(b.tell(exact(a.X+c.X)), b.tell(exact(a.Y+c.Y)), b.tell(exact(a.Z+c.Z)))
	})
	same(t, "Sub", two, func(w *fx.Work) api.Vec { return vec.Sub(w, a, c) }, func(b *book) api.Vec {
		return v(b.tell(exact(a.X-c.X)), b.tell(exact(a.Y-c.Y)), b.tell(exact(a.Z-c.Z)))
	})
	same(t, "Scale", append(partsOf(a), c.X), func(w *fx.Work) api.Vec { return vec.Scale(w, a, c.X) }, func(b *book) api.Vec {
		return v(b.of(1, [3]int{1, a.X, c.X}), b.of(1, [3]int{1, a.Y, c.X}), b.of(1, [3]int{1, a.Z, c.X}))
	})
	same(t, "Dot", two, func(w *fx.Work) int { return vec.Dot(w, a, c) }, func(b *book) int {
		return b.of(1, [3]int{1, a.X, c.X}, [3]int{1, a.Y, c.Y}, [3]int{1, a.Z, c.Z})
	})
	same(t, "Cross", two, func(w *fx.Work) api.Vec { return vec.Cross(w, a, c) }, func(b *book) api.Vec { return b.cross(a, c) })
	same(t, "Len", mine, func(w *fx.Work) int { return vec.Len(w, a) }, func(b *book) int { return b.norm(mine...) })
	same(t, "Unit", mine, func(w *fx.Work) api.Vec { return vec.Unit(w, a) }, func(b *book) api.Vec { return b.unit(a) })
}

func sameTurns(t *testing.T, x, y api.Quat) {
	t.Helper()
	mine := []int{x.W, x.X, x.Y, x.Z}
	both := append([]int{y.W, y.X, y.Y, y.Z}, mine...)
	half := v(y.X, y.Y, y.Z)
	same(t, "Times", both, func(w *fx.Work) api.Quat { return vec.Times(w, x, y) }, func(b *book) api.Quat { return b.times(x, y) })
	same(t, "Whole", mine, func(w *fx.Work) api.Quat { return vec.Whole(w, x) }, func(b *book) api.Quat { return b.whole(x) })
	same(t, "Rows", mine, func(w *fx.Work) api.Mat { return vec.Rows(w, x) }, func(b *book) api.Mat { return b.rows(x) })
	same(t, "Spin", append(partsOf(half), mine...), func(w *fx.Work) api.Quat { return vec.Spin(w, x, half) }, func(b *book) api.Quat {
		return b.whole(b.times(q(one, half.X, half.Y, half.Z), x))
	})
}

func sameMatrices(t *testing.T, m api.Mat, a api.Vec) {
	t.Helper()
	parts := partsOf(m[0], m[1], m[2], a)
	same(t, "Turn", parts, func(w *fx.Work) api.Vec { return vec.Turn(w, m, a) }, func(b *book) api.Vec { return b.turn(m, a) })
	same(t, "Back", parts, func(w *fx.Work) api.Vec { return vec.Back(w, m, a) }, func(b *book) api.Vec { return b.back(m, a) })
}

// TestV1ToV4Exactly holds all calls against exact numbers.
func TestV1ToV4Exactly(t *testing.T) {
	d := dice(1)
	for range 20000 {
		sameVectors(t, d.vec(), d.vec())
		sameTurns(t, d.turn(), d.turn())
		sameMatrices(t, api.Mat{d.vec(), d.vec(), d.vec()}, d.vec())
	}
}

// TestV1ToV4AtTheEnds lays what is just within and just beyond into each place.
func TestV1ToV4AtTheEnds(t *testing.T) {
	ends := []int{0, 1, -1, one, 1 << 31, 1<<31 - 1, 1<<61 - 1, 1 << 61, most, -most, most + 1, -most - 1, math.MaxInt, math.MinInt}
	for i := range 7 {
		for _, n := range ends {
			for _, rest := range ends {
				l := []int{rest, rest, rest, rest, rest, rest, rest}
				l[i] = n
				sameVectors(t, v(l[0], l[1], l[2]), v(l[3], l[4], l[5]))
				sameTurns(t, q(l[0], l[1], l[2], l[3]), q(l[6], l[4], l[5], l[3]))
				sameMatrices(t, api.Mat{v(l[0], l[1], l[2]), v(l[1], l[2], l[0]), v(l[2], l[0], l[1])}, v(l[3], l[4], l[5]))
			}
		}
	}
}

// TestV5Cross: the other way round it is the same, the other way, rounded.
func TestV5Cross(t *testing.T) {
	d := dice(2)
	nought, rounded := 0, 0
	for range 20000 {
		a, b := d.vec(), d.vec()
		w := &fx.Work{}
		there, here := vec.Cross(w, a, b), vec.Cross(w, b, a)
		if w.Bad {
			continue
		}
		for _, n := range []int{there.X + here.X, there.Y + here.Y, there.Z + here.Z} {
			switch n {
			case 0:
				nought++
			case -1:
				rounded++
			default:
				t.Fatalf("%v %v: %v and %v", a, b, there, here)
			}
		}
	}
	if nought == 0 || rounded == 0 {
		t.Error("too few of one kind:", nought, rounded)
	}
}

// hardTurns are those whose Norm is just enough, or rounded the most, and many
// others.
func hardTurns() []api.Quat {
	l := []api.Quat{
		q(1<<31, 0, 0, 0), q(1<<30, 1<<30, 1<<30, 1<<30), q(-1<<30, -1<<30, -1<<30, -1<<30), q(1<<31-1, 1<<16, 0, 0), q(0, 1<<31-1, -1<<16, 1),
		q(most, 0, 0, 0), q(most/2, most/2, -most/2, most/2), q(1<<61-1, 1, -1, 0), q(one, -1, -1, -1), q(1, 0, 0, -one), q(3037000499, 3037000499, 0, 0), q(one/2, one/2, -one/2, -one/2),
	}
	d := dice(3)
	for range 4000 {
		l = append(l, q(d.below(1<<31), d.below(1<<31), d.below(1<<31), d.below(1<<31)), q(d.below(one), d.below(one), d.below(one), d.below(one)), d.turn())
	}
	return l
}

// wholes are what Whole tells of hard turns.
func wholes() []api.Quat {
	var l []api.Quat
	for _, x := range hardTurns() {
		w := &fx.Work{}
		if x = vec.Whole(w, x); !w.Bad {
			l = append(l, x)
		}
	}
	return l
}

func TestV5Whole(t *testing.T) {
	for _, x := range wholes() {
		w := &fx.Work{}
		if n := w.Norm(x.W, x.X, x.Y, x.Z); n < one-4 || n > one+4 || w.Bad {
			t.Errorf("%v: a Norm of %d", x, n)
		}
	}
}

// TestV5Back: what was turned and is turned back is nearly what it was.
func TestV5Back(t *testing.T) {
	far := []api.Vec{v(1<<44, 1<<44, 1<<44), v(-1<<44, 1<<44, -1<<44), v(0, 0, 1<<44), v(one, 0, 0), v(0, 0, 0), v(1, -1, 1)}
	d := dice(4)
	for _, x := range wholes() {
		for _, a := range append(far, v(d.below(1<<44), d.below(1<<44), d.below(1<<44)), v(d.below(1<<34), d.below(1<<34), d.below(1<<34))) {
			w := &fx.Work{}
			m := vec.Rows(w, x)
			off := vec.Sub(w, vec.Back(w, m, vec.Turn(w, m, a)), a)
			may := vec.Len(w, a)>>24 + 64
			if w.Bad || max(off.X, off.Y, off.Z) > may || min(off.X, off.Y, off.Z) < -may {
				t.Fatalf("%v by %v: off by %v, more than %d", a, x, off, may)
			}
		}
	}
}

// TestQuarters: four quarter turns around each axis are none.
func TestQuarters(t *testing.T) {
	for _, axis := range []api.Vec{v(one, 0, 0), v(0, one, 0), v(0, 0, one)} {
		for _, sign := range []int{1, -1} {
			w := &fx.Work{}
			x := q(one, 0, 0, 0)
			for range 4 {
				x = vec.Spin(w, x, v(sign*axis.X, sign*axis.Y, sign*axis.Z))
			}
			a := vec.Sub(w, vec.Turn(w, vec.Rows(w, x), v(one, 2*one, 3*one)), v(one, 2*one, 3*one))
			if w.Bad || x.W > 16-one || vec.Len(w, a) > 256 {
				t.Errorf("%v: %v, off by %v", axis, x, a)
			}
		}
	}
}
