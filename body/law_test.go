package body_test

import (
	"math"
	"math/big"
	"testing"

	"tumbler/api"
	"tumbler/body"
	"tumbler/fx"
	"tumbler/vec"
)

// dice tells numbers, the same ones each time.
type dice uint64

func (d *dice) below(n int) int {
	*d = *d*6364136223846793005 + 1442695040888963407
	mixed := (uint64(*d) ^ uint64(*d)>>29) * 0xbf58476d1ce4e5b9
	return int(mixed>>1) % n
}

// part is a number of a size of at most n.
func (d *dice) part(n int) int { return d.below(2*n+1) - n }

// long is a number of any length up to 2^n.
func (d *dice) long(n int) int { return d.part(1 << d.below(n+1)) }

// number is one that may be, of any length up to 2^n; at times it is any at all, or
// one of the ends.
func (d *dice) number(n int) int {
	switch d.below(60) {
	case 0:
		return d.part(1 << 61)
	case 1:
		return []int{most, -most, most + 1, -most - 1, math.MinInt, math.MaxInt, 1 << 61, 0, 1, -1}[d.below(10)]
	}
	return d.long(n)
}

func (d *dice) vec(n int) api.Vec { return v(d.number(n), d.number(n), d.number(n)) }

// whole is a turn of a Norm of One.
func (d *dice) whole() api.Quat {
	for {
		w := &fx.Work{}
		if x := vec.Whole(w, q(d.part(one), d.part(one), d.part(one), d.part(one))); !w.Bad {
			return x
		}
	}
}

// turn is mostly whole; at times it hardly turns, or it is any at all.
func (d *dice) turn() api.Quat {
	switch d.below(12) {
	case 0:
		return q(one, d.long(20), d.long(20), d.long(20))
	case 1:
		return q(d.number(34), d.number(34), d.number(34), d.number(34))
	}
	return d.whole()
}

// mass is one that may be; at times any at all.
func (d *dice) mass() api.Mass {
	if d.below(12) == 0 {
		return api.Mass{Mass: d.number(40), Inertia: d.vec(49)}
	}
	inertia := func() int { return 1<<12 + d.below(1<<d.below(49)) }
	return api.Mass{Mass: 1<<24 + d.below(1<<d.below(40)), Inertia: v(inertia(), inertia(), inertia())}
}

// body is mostly Moving, and one that may be.
func (d *dice) body() api.Body {
	b := with(func(b *api.Body) {
		b.Pose, b.P, b.L, b.Mass = api.Pose{At: d.vec(42), Turn: d.turn()}, d.vec(54), d.vec(54), d.mass()
	})
	if d.below(10) == 0 {
		b.Kind = d.below(4)
	}
	return b
}

func exact(n int) *big.Int { return big.NewInt(int64(n)) }

// three are a vector's parts.
type three [3]int

func threeOf(a api.Vec) three { return three{a.X, a.Y, a.Z} }

func (x three) vec() api.Vec { return v(x[0], x[1], x[2]) }

// book is the rules over again, with exact numbers; it is bad where a work would be.
type book struct{ bad bool }

func (b *book) tell(n *big.Int) int {
	if n.CmpAbs(exact(most)) > 0 {
		b.bad = true
		return 0
	}
	return int(n.Int64())
}

// great is whether one of l is, and marks the book then.
func (b *book) great(l ...int) bool {
	was := b.bad
	b.bad = false
	for _, n := range l {
		b.tell(exact(n))
	}
	is := b.bad
	b.bad = was || is
	return is
}

// vector is how layer 2 tells one: all noughts, if a part of it could not be told.
func (b *book) vector(do func(b *book, i int) int) three {
	own := &book{}
	var out three
	for i := range out {
		out[i] = do(own, i)
	}
	if own.bad {
		b.bad, out = true, three{}
	}
	return out
}

// sum is that of products, by One, down.
func (b *book) sum(pairs ...int) int {
	if b.great(pairs...) {
		return 0
	}
	n := new(big.Int)
	for i := 0; i < len(pairs); i += 2 {
		n.Add(n, new(big.Int).Mul(exact(pairs[i]), exact(pairs[i+1])))
	}
	return b.tell(n.Rsh(n, 32))
}

// over is n by m, down.
func (b *book) over(n, m int) int {
	if m == 0 || b.great(n, m) {
		b.bad = true
		return 0
	}
	up, down := new(big.Int).Lsh(exact(n), 32), exact(m)
	if m < 0 {
		up.Neg(up)
		down.Neg(down)
	}
	return b.tell(up.Div(up, down)) // Euclid's: of a divisor above 0 it is down
}

func (b *book) norm(l ...int) int {
	if b.great(l...) {
		return 0
	}
	n := new(big.Int)
	for _, m := range l {
		n.Add(n, new(big.Int).Mul(exact(m), exact(m)))
	}
	return b.tell(n.Sqrt(n))
}

func (b *book) plus(x, y three) three {
	return b.vector(func(b *book, i int) int {
		if b.great(x[i], y[i]) {
			return 0
		}
		return b.tell(new(big.Int).Add(exact(x[i]), exact(y[i])))
	})
}

func (b *book) scaled(x three, n int) three {
	return b.vector(func(b *book, i int) int { return b.sum(x[i], n) })
}

func (b *book) cross(x, y three) three {
	if b.great(x[0], x[1], x[2], y[0], y[1], y[2]) {
		return three{}
	}
	return b.vector(func(b *book, i int) int {
		j, k := (i+1)%3, (i+2)%3
		return b.sum(x[j], y[k], x[k], -y[j])
	})
}

// rows are those of a turn, told by its axis going round.
func (b *book) rows(q api.Quat) [3]three {
	own := &book{}
	for _, n := range []int{q.W, q.X, q.Y, q.Z} {
		own.tell(new(big.Int).Lsh(exact(n), 1))
	}
	var m [3]three
	axis := three{q.X, q.Y, q.Z}
	for i := range 3 {
		if own.bad {
			break
		}
		j, k := (i+1)%3, (i+2)%3
		m[i][i] = own.tell(new(big.Int).Sub(exact(one), exact(own.sum(2*axis[j], axis[j], 2*axis[k], axis[k]))))
		m[i][j] = own.sum(2*axis[i], axis[j], 2*q.W, -axis[k])
		m[i][k] = own.sum(2*axis[i], axis[k], 2*q.W, axis[j])
	}
	if own.bad {
		b.bad = true
		return [3]three{}
	}
	return m
}

// spun is the turn (One, half) behind q, made whole.
func (b *book) spun(q api.Quat, half three) api.Quat {
	own := &book{}
	if own.great(q.W, q.X, q.Y, q.Z, half[0], half[1], half[2]) {
		b.bad = true
		return api.Quat{}
	}
	axis := three{q.X, q.Y, q.Z}
	l := []int{own.sum(one, q.W, half[0], -q.X, half[1], -q.Y, half[2], -q.Z)}
	for i := range 3 {
		j, k := (i+1)%3, (i+2)%3
		l = append(l, own.sum(one, axis[i], half[i], q.W, half[j], axis[k], half[k], -axis[j]))
	}
	n := own.norm(l...)
	if own.bad || n < 1<<31 {
		b.bad = true
		return api.Quat{}
	}
	return api.Quat{W: own.over(l[0], n), X: own.over(l[1], n), Y: own.over(l[2], n), Z: own.over(l[3], n)}
}

// speed tells its parts one by one: no vector of layer 2.
func (b *book) speed(of api.Body) three {
	var out three
	for i, n := range threeOf(of.P) {
		out[i] = b.over(n, of.Mass.Mass)
	}
	return out
}

func (b *book) yield(of api.Body, l three) three {
	m := b.rows(of.Pose.Turn)
	own := b.vector(func(b *book, i int) int { return b.sum(m[0][i], l[0], m[1][i], l[1], m[2][i], l[2]) })
	for i, n := range threeOf(of.Mass.Inertia) {
		own[i] = b.over(own[i], n)
	}
	return b.vector(func(b *book, i int) int { return b.sum(m[i][0], own[0], m[i][1], own[1], m[i][2], own[2]) })
}

func (b *book) push(of api.Body, arm, impulse api.Vec) api.Body {
	turns := b.cross(threeOf(arm), threeOf(impulse))
	of.P, of.L = b.plus(threeOf(of.P), threeOf(impulse)).vec(), b.plus(threeOf(of.L), turns).vec()
	return of
}

func (b *book) fall(of api.Body, pull api.Vec, time int) api.Body {
	of.P = b.plus(threeOf(of.P), b.scaled(threeOf(pull), b.sum(of.Mass.Mass, time))).vec()
	return of
}

func (b *book) goes(of api.Body, time int) api.Body {
	half := new(big.Int).Div(exact(time), exact(2))
	spin := b.yield(of, threeOf(of.L))
	of.Pose = api.Pose{
		At:   b.plus(threeOf(of.Pose.At), b.scaled(b.speed(of), time)).vec(),
		Turn: b.spun(of.Pose.Turn, b.scaled(spin, int(half.Int64()))),
	}
	return of
}

// cap looks for the first power of two by which each momentum is slow enough.
func (b *book) cap(of api.Body) (api.Body, bool) {
	by := func(a api.Vec, twos int) api.Vec {
		many := new(big.Int).Lsh(exact(1), uint(twos))
		part := func(n int) int { return int(new(big.Int).Quo(exact(n), many).Int64()) }
		return v(part(a.X), part(a.Y), part(a.Z))
	}
	out, p, l := of, 0, 0
	for x := b.speed(out); !b.bad && b.norm(x[0], x[1], x[2]) > 1<<38; x = b.speed(out) {
		p++
		out.P = by(of.P, p)
	}
	for x := b.yield(out, threeOf(out.L)); !b.bad && b.norm(x[0], x[1], x[2]) > 1<<36; x = b.yield(out, threeOf(out.L)) {
		l++
		out.L = by(of.L, l)
	}
	if b.bad {
		return of, false
	}
	return out, p+l > 0
}

// tally counts how many answers were told, were Bad, and changed something.
type tally struct{ told, bad, changed int }

// hold holds a call against the book; of a body that is not Moving the book says
// that all stays.
func hold[T any](t *testing.T, n *tally, name string, of api.Body, stays T, alike func(a, b T) bool, do func(w *fx.Work) T, meant func(b *book) T) {
	t.Helper()
	b, want := &book{}, stays
	if of.Kind == api.Moving {
		want = meant(b)
	}
	w := &fx.Work{}
	got := do(w)
	if !alike(got, want) || w.Bad != b.bad {
		t.Fatalf("%s of %+v: %+v, Bad %v; not %+v, Bad %v", name, of, got, w.Bad, want, b.bad)
	}
	switch {
	case b.bad:
		n.bad++
	case alike(got, stays):
		n.told++
	default:
		n.changed++
	}
}

func alikeVecs(a, b api.Vec) bool { return a == b }

func alikeCapped(a, b capped) bool { return same(a.of, b.of) && a.cut == b.cut }

// holdAll holds all calls on one body against the book.
func holdAll(t *testing.T, n map[string]*tally, of api.Body, a, c api.Vec, time int) {
	t.Helper()
	count := func(name string) *tally {
		if n[name] == nil {
			n[name] = &tally{}
		}
		return n[name]
	}
	vector := func(name string, do func(w *fx.Work) api.Vec, meant func(b *book) three) {
		t.Helper()
		hold(t, count(name), name, of, api.Vec{}, alikeVecs, do, func(b *book) api.Vec { return meant(b).vec() })
	}
	changed := func(name string, do func(w *fx.Work) api.Body, meant func(b *book) api.Body) {
		t.Helper()
		hold(t, count(name), name, of, of, same, do, meant)
	}
	vector("Speed", func(w *fx.Work) api.Vec { return body.Speed(w, of) }, func(b *book) three { return b.speed(of) })
	vector("Spin", func(w *fx.Work) api.Vec { return body.Spin(w, of) }, func(b *book) three { return b.yield(of, threeOf(of.L)) })
	vector("Yield", func(w *fx.Work) api.Vec { return body.Yield(w, of, a) }, func(b *book) three { return b.yield(of, threeOf(a)) })
	changed("Push", func(w *fx.Work) api.Body { return body.Push(w, of, a, c) }, func(b *book) api.Body { return b.push(of, a, c) })
	changed("Twist", func(w *fx.Work) api.Body { return body.Twist(w, of, c) }, func(b *book) api.Body {
		out := of
		out.L = b.plus(threeOf(of.L), threeOf(c)).vec()
		return out
	})
	changed("Fall", func(w *fx.Work) api.Body { return body.Fall(w, of, a, time) }, func(b *book) api.Body { return b.fall(of, a, time) })
	changed("Go", func(w *fx.Work) api.Body { return body.Go(w, of, time) }, func(b *book) api.Body { return b.goes(of, time) })
	hold(t, count("Cap"), "Cap", of, capped{of, false}, alikeCapped, func(w *fx.Work) capped {
		out, cut := body.Cap(w, of)
		return capped{out, cut}
	}, func(b *book) capped {
		out, cut := b.cap(of)
		return capped{out, cut}
	})
}

// TestD2ToD5Exactly holds all calls against exact numbers.
func TestD2ToD5Exactly(t *testing.T) {
	d, n := dice(1), map[string]*tally{}
	for range 20000 {
		holdAll(t, n, d.body(), d.vec(42), d.vec(48), d.number(34))
	}
	for name, x := range n {
		if x.told < 100 || x.bad < 100 || x.changed < 1000 {
			t.Errorf("%s: too few of one kind: %+v", name, *x)
		}
	}
}

// TestD2ToD5AtTheEnds lays what is just within and just beyond into each place.
func TestD2ToD5AtTheEnds(t *testing.T) {
	ends := []int{0, 1, -1, one, 1 << 31, 1 << 54, most, -most, most + 1, -most - 1, math.MaxInt, math.MinInt}
	n := map[string]*tally{}
	for place := range 25 {
		for _, end := range ends {
			for _, moves := range []bool{true, false} {
				of, a, c, time := some(), v(one, 2*one, -one), v(-one, one, 3*one), one+1
				if !moves {
					of.P, of.L, a, c, time = api.Vec{}, api.Vec{}, api.Vec{}, api.Vec{}, 0
				}
				places := append(partsOf(&of.P), partsOf(&of.L)...)
				places = append(append(places, partsOf(&of.Pose.At)...), partsOf(&of.Mass.Inertia)...)
				places = append(append(places, partsOf(&a)...), partsOf(&c)...)
				turn := &of.Pose.Turn
				places = append(places, &turn.W, &turn.X, &turn.Y, &turn.Z, &of.Mass.Mass, &time, &of.Kind)
				*places[place] = end
				holdAll(t, n, of, a, c, time)
			}
		}
	}
}

// TestD5Slow: what was capped is not too fast; to cap it again changes nothing.
func TestD5Slow(t *testing.T) {
	d, cuts := dice(2), 0
	for range 20000 {
		b := d.body()
		w := &fx.Work{}
		c, cut := body.Cap(w, b)
		if w.Bad || b.Kind != api.Moving {
			continue
		}
		if cut {
			cuts++
		}
		if vec.Len(w, body.Speed(w, c)) > api.MaxSpeed || vec.Len(w, body.Spin(w, c)) > api.MaxSpin || w.Bad {
			t.Fatalf("%+v is too fast still: %v, %v", b, c.P, c.L)
		}
		if again, cut := body.Cap(w, c); cut || !same(again, c) || w.Bad {
			t.Fatalf("%+v: %v, %v, then %v, %v", b, c.P, c.L, again.P, again.L)
		}
	}
	if cuts < 1000 {
		t.Error("too few were cut:", cuts)
	}
}

func minus(a, b api.Vec) api.Vec { return v(a.X-b.X, a.Y-b.Y, a.Z-b.Z) }

func plus(a, b api.Vec) api.Vec { return v(a.X+b.X, a.Y+b.Y, a.Z+b.Z) }

// around is the sum of bodies' angular momenta about the world's middle, times One:
// exact.
func around(l ...api.Body) [3]*big.Int {
	sum := [3]*big.Int{{}, {}, {}}
	for _, b := range l {
		at, p, own := threeOf(b.Pose.At), threeOf(b.P), threeOf(b.L)
		for i := range 3 {
			j, k := (i+1)%3, (i+2)%3
			sum[i].Add(sum[i], new(big.Int).Lsh(exact(own[i]), 32))
			sum[i].Add(sum[i], new(big.Int).Mul(exact(at[j]), exact(p[k])))
			sum[i].Sub(sum[i], new(big.Int).Mul(exact(at[k]), exact(p[j])))
		}
	}
	return sum
}

// usual is a Moving body that Check takes, not near the ends.
func (d *dice) usual() api.Body {
	return with(func(b *api.Body) {
		b.Pose = api.Pose{At: v(d.long(42), d.long(42), d.long(42)), Turn: d.whole()}
		b.P, b.L = v(d.long(50), d.long(50), d.long(50)), v(d.long(50), d.long(50), d.long(50))
	})
}

// TestD6Back: what one is pushed by and another one is pushed back by leaves the sum
// of both P as it was, and, if both arms end at one place, nearly the sum of both
// angular momenta: each part by less than 2.
func TestD6Back(t *testing.T) {
	d, rounded := dice(3), 0
	for range 20000 {
		a, b := d.usual(), d.usual()
		at, impulse := v(d.long(42), d.long(42), d.long(42)), v(d.long(45), d.long(45), d.long(45))
		w := &fx.Work{}
		c := body.Push(w, a, minus(at, a.Pose.At), impulse)
		e := body.Push(w, b, minus(at, b.Pose.At), minus(api.Vec{}, impulse))
		if w.Bad || plus(c.P, e.P) != plus(a.P, b.P) {
			t.Fatalf("%v and %v: %v and %v, Bad %v", a.P, b.P, c.P, e.P, w.Bad)
		}
		before, after := around(a, b), around(c, e)
		for i := range 3 {
			off := new(big.Int).Sub(after[i], before[i])
			if off.CmpAbs(exact(2*one)) >= 0 {
				t.Fatalf("%+v, %+v, by %v at %v: off by %v of One's parts", a, b, impulse, at, off)
			}
			if off.Sign() != 0 {
				rounded++
			}
		}
	}
	if rounded == 0 {
		t.Error("nothing was rounded")
	}
}

// TestD6Often: however often they push one another, wherever they go in between,
// nothing of the sum of P is lost.
func TestD6Often(t *testing.T) {
	d := dice(4)
	a, b := d.usual(), d.usual()
	sum, w := plus(a.P, b.P), &fx.Work{}
	for i := range 5000 {
		impulse := v(d.long(40), d.long(40), d.long(40))
		a = body.Push(w, a, v(d.long(34), d.long(34), d.long(34)), impulse)
		b = body.Push(w, b, v(d.long(34), d.long(34), d.long(34)), minus(api.Vec{}, impulse))
		a, b = body.Go(w, a, d.long(20)), body.Twist(w, b, v(d.long(34), d.long(34), d.long(34)))
		if plus(a.P, b.P) != sum || w.Bad {
			t.Fatalf("%d: %v and %v, not %v; Bad %v", i, a.P, b.P, sum, w.Bad)
		}
	}
}

// TestD6Free: whom no one pushes keeps P and L for ever, wherever it goes and however
// it turns; its place goes on by the same way each time.
func TestD6Free(t *testing.T) {
	d := dice(5)
	for range 40 {
		w := &fx.Work{}
		first, _ := body.Cap(w, d.usual())
		first.Pose.At = v(d.long(34), d.long(34), d.long(34))
		b := first
		way := minus(body.Go(w, b, api.Step).Pose.At, b.Pose.At)
		for range 500 {
			at := b.Pose.At
			if b = body.Go(w, b, api.Step); minus(b.Pose.At, at) != way || w.Bad {
				t.Fatalf("%+v: %v, not %v; Bad %v", b, minus(b.Pose.At, at), way, w.Bad)
			}
		}
		turn := b.Pose.Turn
		if n := w.Norm(turn.W, turn.X, turn.Y, turn.Z); n < one-4 || n > one+4 {
			t.Fatalf("%v: a Norm of %d", turn, n)
		}
		if b.Pose = first.Pose; !same(b, first) {
			t.Fatalf("%+v became %+v", first, b)
		}
	}
}
