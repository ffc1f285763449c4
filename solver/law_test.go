package solver_test

import (
	"math"
	"reflect"
	"slices"
	"testing"

	"tumbler/api"
	"tumbler/fx"
	"tumbler/row"
	"tumbler/solver"
	"tumbler/vec"
)

// dice tells numbers, the same ones each time.
type dice uint64

func (d *dice) below(n int) int {
	*d = *d*6364136223846793005 + 1442695040888963407
	mixed := (uint64(*d) ^ uint64(*d)>>29) * 0xbf58476d1ce4e5b9
	return int(mixed>>1) % n
}

// part is a number of a size of at most n.
func (d *dice) part(n int) int { return d.below(2*n+1) - n }

// long is a number of any length up to 2^n.
func (d *dice) long(n int) int { return d.part(1 << d.below(n+1)) }

// number is one of any length up to 2^n; at times it is any at all, or one of the
// ends.
func (d *dice) number(n int) int {
	switch d.below(400) {
	case 0:
		return d.part(1 << 61)
	case 1:
		return []int{most, -most, most + 1, -most - 1, math.MinInt, math.MaxInt, 1 << 50, -1 << 42, 0, 1, -1}[d.below(11)]
	}
	return d.long(n)
}

func (d *dice) vec(n int) api.Vec { return v(d.number(n), d.number(n), d.number(n)) }

func (d *dice) tame(n int) api.Vec { return v(d.long(n), d.long(n), d.long(n)) }

// axis is a direction; at times a part is nought, or two are alike.
func (d *dice) axis() api.Point {
	x := at(d.number(20), d.number(20), d.number(20))
	switch d.below(6) {
	case 0:
		x.X = 0
	case 1:
		x.Y = -x.X
	case 2:
		x.Z = x.Y
	case 3:
		x.X, x.Y = x.Z, 0
	}
	return x
}

// patch is one of up to five spots.
func (d *dice) patch() api.Patch {
	p := api.Patch{Axis: d.axis()}
	for range d.below(6) {
		p.Spots = append(p.Spots, api.Spot{At: at(d.number(30), d.number(30), d.number(30)), Depth: d.number(20), ID: d.below(512)})
	}
	return p
}

func (d *dice) asked() asked {
	x := asked{p: d.patch(), a: d.below(5) - 1, b: d.below(5) - 1, first: d.number(11)}
	for range 3 {
		x.l = append(x.l, kind(d.below(4), d.vec(42)))
	}
	if d.below(3) > 0 {
		x.rub = d.number(33)
	}
	return x
}

// TestV1Exactly holds the rows against exact numbers.
func TestV1Exactly(t *testing.T) {
	d, smooth, rubs, none, bads := dice(1), 0, 0, 0, 0
	for range 40000 {
		x := d.asked()
		want, bad := x.book()
		checkRows(t, "by the book", x, want, bad)
		if t.Failed() {
			t.Fatalf("%+v", x)
		}
		switch {
		case bad:
			bads++
		case len(want) == 0:
			none++
		case x.rub > 0:
			rubs++
		default:
			smooth++
		}
	}
	if smooth < 5000 || rubs < 5000 || none < 2000 || bads < 2000 {
		t.Error("too few of one kind:", smooth, rubs, none, bads)
	}
}

// places are all numbers that Rows is asked with, of the last spot and both bodies.
func (x *asked) places() []*int {
	s, a, b := &x.p.Spots[len(x.p.Spots)-1], &x.l[0].Pose.At, &x.l[1].Pose.At
	return []*int{
		&x.p.Axis.X, &x.p.Axis.Y, &x.p.Axis.Z, &s.At.X, &s.At.Y, &s.At.Z, &s.Depth, &s.ID,
		&a.X, &a.Y, &a.Z, &b.X, &b.Y, &b.Z, &x.a, &x.b, &x.rub, &x.first, &x.l[0].Kind,
	}
}

// TestV1AtTheEnds lays what is just within and just beyond into each place.
func TestV1AtTheEnds(t *testing.T) {
	ends := []int{
		0, 1, -1, 2, 3, one, -one, 1 << 20, 1<<20 + 1, -1 << 20, -1<<20 - 1, 1<<42 - 1, 1 << 42, -1 << 42, 1 << 49, 1<<50 - 1, 1 << 50, -1 << 50,
		1 << 61, most - 3, most - 2, most, -most, most + 1, -most - 1, math.MaxInt, math.MinInt,
	}
	start := func(n int) asked {
		x := asked{p: up(spots(4, 5)...), a: 0, b: 1, l: list(some(v(one, 2, -3)), some(v(-one, 7, 9))), first: 5}
		x.p.Spots[1].At = at(100, -200, 300)
		if n%2 == 1 {
			x.rub = one / 2
		}
		if n/2 == 1 {
			x.p.Axis = at(300, -400, 500)
		}
		return x
	}
	good, bads := 0, 0
	for n := range 4 {
		sample := start(n)
		for place := range sample.places() {
			for _, end := range ends {
				x := start(n)
				*x.places()[place] = end
				want, bad := x.book()
				checkRows(t, "at the ends", x, want, bad)
				if t.Failed() {
					t.Fatalf("%+v", x)
				}
				if bad {
					bads++
				} else {
					good++
				}
			}
		}
	}
	if good < 800 || bads < 300 {
		t.Error("too few of one kind:", good, bads)
	}
}

// wild are any bodies and rows.
func (d *dice) wild() lists {
	var x lists
	for range 3 {
		b := goes(d.vec(40))
		b.Kind, b.L, b.Pose.At = 1+min(1, d.below(8)), d.vec(36), d.vec(42)
		x.l = append(x.l, b)
	}
	for range 1 + d.below(5) {
		r := api.Row{
			A: d.below(5) - 1, B: d.below(5) - 1, Way: d.vec(32), ArmA: d.vec(32), ArmB: d.vec(32), Turn: d.below(4) == 0,
			Goal: d.number(34), Low: -d.below(1 << d.below(46)), High: d.below(1 << d.below(46)), Of: -1, Sum: d.number(30),
		}
		if d.below(3) == 0 {
			r.Of, r.Rub = d.below(6)-1, d.number(32)
		}
		x.rows = append(x.rows, r)
	}
	return x
}

// byHand is what V2 says, by layer 13's calls; whether one of them was Bad.
func (x lists) byHand(sweeps int) (lists, int, bool) {
	y, w, left := x.copied(), &fx.Work{}, 0
	for i := 0; i < sweeps && i < 16; i++ {
		for n := range y.rows {
			row.Solve(w, y.rows, n, y.l)
		}
	}
	for n := range y.rows {
		lack := w.Sub(row.Wish(w, y.rows, n, y.l), y.rows[n].Sum)
		if lack < 0 {
			lack = -lack
		}
		left = max(left, lack)
	}
	if w.Bad {
		return x, 0, true
	}
	return y, left, false
}

// TestV2ByHand holds Solve against layer 13's calls, one by one.
func TestV2ByHand(t *testing.T) {
	d, changed, same, bads := dice(2), 0, 0, 0
	for range 6000 {
		x, sweeps := d.wild(), d.below(22)-2
		want, left, bad := x.byHand(sweeps)
		checkSolve(t, "by hand", x, sweeps, want, left, bad)
		if t.Failed() {
			t.Fatalf("%+v", x)
		}
		switch {
		case bad:
			bads++
		case reflect.DeepEqual(x, want):
			same++
		default:
			changed++
		}
	}
	if changed < 2000 || same < 500 || bads < 300 {
		t.Error("too few of one kind:", changed, same, bads)
	}
}

// whole is a turn of a Norm of One.
func (d *dice) whole() api.Quat {
	for {
		w := &fx.Work{}
		if x := vec.Whole(w, api.Quat{W: d.part(one), X: d.part(one), Y: d.part(one), Z: d.part(one)}); !w.Bad {
			return x
		}
	}
}

// mover is a Moving body as worlds have it.
func (d *dice) mover() api.Body {
	inertia := func() int { return one/4 + d.below(4*one) }
	return api.Body{
		Kind: api.Moving, Pose: api.Pose{At: d.tame(33), Turn: d.whole()}, P: d.tame(36), L: d.tame(34),
		Mass: api.Mass{Mass: one/4 + d.below(8*one), Inertia: v(inertia(), inertia(), inertia())},
	}
}

// scene is three Moving bodies and a wall, with rows of some patches; of the Moving
// bodies alone, if closed, else of the wall and of nobody, too.
func (d *dice) scene(t *testing.T, patches int, closed bool) lists {
	t.Helper()
	x, w := lists{l: list(d.mover(), d.mover(), d.mover(), kind(api.Fixed, d.tame(33)))}, &fx.Work{}
	for range patches {
		a := d.below(3)
		b := (a + 1 + d.below(2)) % 3
		if !closed && d.below(2) == 0 {
			a = []int{3, -1}[d.below(2)]
		}
		p := api.Patch{Axis: at(d.part(1<<20), 1+d.below(1<<20), d.part(1<<20))}
		for range 1 + d.below(4) {
			p.Spots = append(p.Spots, api.Spot{At: at(d.part(8192), d.part(8192), d.part(8192)), Depth: d.part(20)})
		}
		x.rows = append(x.rows, solver.Rows(w, p, a, b, x.l, d.part(one), len(x.rows))...)
	}
	if w.Bad || len(x.rows) < patches {
		t.Fatalf("%d rows, Bad %v", len(x.rows), w.Bad)
	}
	return x
}

// solve solves a scene, in place; what is left.
func (x lists) solve(t *testing.T, sweeps int) int {
	t.Helper()
	w := &fx.Work{}
	left := solver.Solve(w, x.rows, x.l, sweeps)
	if w.Bad {
		t.Fatalf("Bad: %+v", x)
	}
	return left
}

// TestV3Within: behind any number of sweeps no contact pulls, none is beyond its ends,
// and what rubs stays within its part of what presses.
func TestV3Within(t *testing.T) {
	d, presses, rubs, held := dice(3), 0, 0, 0
	for range 400 {
		x, w := d.scene(t, 1+d.below(4), false), &fx.Work{}
		x.solve(t, 1+d.below(16))
		for n, r := range x.rows {
			low, high := row.Ends(w, x.rows, n)
			if r.Sum < low || r.Sum > high {
				t.Fatalf("%d of %+v: %d to %d", n, x.rows, low, high)
			}
			if r.Of < 0 {
				if r.Sum < 0 || r.Sum > press {
					t.Fatalf("it pulls: %+v", r)
				}
				presses += min(1, r.Sum)
				continue
			}
			normal := x.rows[r.Of]
			part := w.Mul(r.Rub, normal.Sum)
			if normal.Of != -1 || r.Of >= n || n-r.Of > 2 || r.Sum > part || r.Sum < -part {
				t.Fatalf("%d of %+v: beyond %d", n, x.rows, part)
			}
			rubs++
			if part > 0 && (r.Sum == part || r.Sum == -part) {
				held++
			}
		}
		if w.Bad {
			t.Fatal("Bad")
		}
	}
	if presses < 500 || rubs < 500 || held < 100 {
		t.Error("too few:", presses, rubs, held)
	}
}

// TestV3Sweeps: n sweeps and then m are n + m sweeps; and what is left is told alike.
func TestV3Sweeps(t *testing.T) {
	d, changed := dice(4), 0
	for range 300 {
		x := d.scene(t, 1+d.below(4), false)
		n := d.below(17)
		m := d.below(17 - n)
		once, twice := x.copied(), x.copied()
		left := once.solve(t, n+m)
		twice.solve(t, n)
		between := twice.copied()
		if got := twice.solve(t, m); got != left || !reflect.DeepEqual(once, twice) {
			t.Fatalf("%d and %d of %+v: %d, %+v, not %d, %+v", n, m, x, got, twice, left, once)
		}
		if again := twice.solve(t, 0); again != left || !reflect.DeepEqual(once, twice) {
			t.Fatalf("no sweep changes something: %d, %d", again, left)
		}
		if !reflect.DeepEqual(between, twice) {
			changed++
		}
	}
	if changed < 100 {
		t.Error("too few are changed by the second call:", changed)
	}
}

// TestV3Left: where nothing is left another sweep changes nothing; where something is,
// it does.
func TestV3Left(t *testing.T) {
	d, none, some := dice(5), 0, 0
	for range 600 {
		x := d.scene(t, 1, false)
		if d.below(2) == 0 {
			x.rows = x.rows[:1]
		}
		left := x.solve(t, d.below(17))
		y := x.copied()
		y.solve(t, 1)
		if same := reflect.DeepEqual(x, y); same != (left == 0) {
			t.Fatalf("left: %d; %+v, then %+v", left, x, y)
		}
		if left == 0 {
			none++
		} else {
			some++
		}
	}
	if none < 100 || some < 100 {
		t.Error("too few of one kind:", none, some)
	}
}

func plus(l ...api.Vec) api.Vec {
	var sum api.Vec
	for _, a := range l {
		sum = v(sum.X+a.X, sum.Y+a.Y, sum.Z+a.Z)
	}
	return sum
}

// TestV3Momentum: among Moving bodies alone the sum of all P stays, exactly; and the
// wall stays as it is.
func TestV3Momentum(t *testing.T) {
	d, moved := dice(6), 0
	for range 400 {
		x := d.scene(t, 1+d.below(4), true)
		was := x.copied()
		x.solve(t, 1+d.below(16))
		if now, then := plus(x.l[0].P, x.l[1].P, x.l[2].P), plus(was.l[0].P, was.l[1].P, was.l[2].P); now != then {
			t.Fatalf("%v, not %v: %+v", now, then, x)
		}
		if !reflect.DeepEqual(x.l[3], was.l[3]) {
			t.Fatal("the wall has moved")
		}
		if x.l[0].P != was.l[0].P {
			moved++
		}
	}
	if moved < 100 {
		t.Error("too few were moved:", moved)
	}
}

// TestV3Alone: but for the Sums, and for the momenta of those that rows speak of,
// nothing is changed; what nobody speaks of bears upon nothing.
func TestV3Alone(t *testing.T) {
	d := dice(7)
	for range 300 {
		x := d.scene(t, 2, false)
		more := x.copied()
		more.l = append(more.l, d.mover(), d.mover())
		was := more.copied()
		n := d.below(17)
		left, other := x.solve(t, n), more.solve(t, n)
		if left != other || !slices.Equal(x.rows, more.rows) || !reflect.DeepEqual(x.l, more.l[:4]) || !reflect.DeepEqual(was.l[4:], more.l[4:]) {
			t.Fatalf("%+v, then %+v", was, more)
		}
		for i := range was.rows {
			was.rows[i].Sum = more.rows[i].Sum
		}
		for i := range was.l {
			was.l[i].P, was.l[i].L = more.l[i].P, more.l[i].L
		}
		if !reflect.DeepEqual(was, more) {
			t.Fatalf("%+v, then %+v", was, more)
		}
	}
}
