package row_test

import (
	"math"
	"testing"

	"tumbler/api"
	"tumbler/fx"
	"tumbler/row"
)

const (
	one  = api.One
	most = api.Most
)

// v is a vector, written shortly.
func v(x, y, z int) api.Vec { return api.Vec{X: x, Y: y, Z: z} }

// some is a Moving body whose fields are all told: of mass 2, and an inertia of 1, 2
// and 4, so that its speed is (1 -2 3) and its spin (4 3 -2).
func some() api.Body {
	return api.Body{
		Kind: api.Moving, Pose: api.Pose{At: v(one, -2*one, 3*one), Turn: api.Quat{W: one}}, P: v(2*one, -4*one, 6*one), L: v(4*one, 6*one, -8*one),
		Mass:  api.Mass{Mass: 2 * one, Inertia: v(one, 2*one, 4*one)},
		Shape: api.Shape{Kind: api.Hull, Radius: 9, Half: api.Point{X: 1, Y: 2, Z: 3}, Points: []api.Point{{}, {X: 4}, {Y: 4}, {Z: 4}}},
		Group: 3, Mask: 5, Friction: one / 2, Fast: true, Quiet: 7, Asleep: true, Out: true,
	}
}

// with is some body, changed.
func with(change func(b *api.Body)) api.Body {
	b := some()
	change(&b)
	return b
}

// of is some body of these momenta.
func of(p, l api.Vec) api.Body { return with(func(b *api.Body) { b.P, b.L = p, l }) }

// fixed is some body that does not move, whatever it says of its momenta.
func fixed() api.Body { return with(func(b *api.Body) { b.Kind = api.Fixed }) }

func list(l ...api.Body) []api.Body { return l }

// nobodies are places that a list of two has not.
func nobodies() []int { return []int{-1, 2, 3, math.MinInt, math.MaxInt} }

// ahead does something with a work that is not Bad and with one that is: the flag is
// never taken back, and must be set if bad.
func ahead(t *testing.T, name string, bad bool, do func(w *fx.Work)) {
	t.Helper()
	for _, was := range []bool{false, true} {
		w := &fx.Work{Bad: was}
		do(w)
		if w.Bad != (was || bad) {
			t.Errorf("%s: Bad ahead %v: Bad %v", name, was, w.Bad)
		}
	}
}

// told is a row with bodies, and what Rate or Weight must tell of it.
type told struct {
	name string
	r    api.Row
	l    []api.Body
	want int
	bad  bool
}

func checkTold(t *testing.T, call func(w *fx.Work, r api.Row, l []api.Body) int, cases []told) {
	t.Helper()
	for _, c := range cases {
		ahead(t, c.name, c.bad, func(w *fx.Work) {
			t.Helper()
			if got := call(w, c.r, c.l); got != c.want {
				t.Errorf("%s: %d, not %d", c.name, got, c.want)
			}
		})
	}
}

// slow is a second body: its speed is (0 1 0), its spin (0 0 1).
func slow() api.Body { return of(v(0, 2*one, 0), v(0, 0, 4*one)) }

func TestR1Rate(t *testing.T) {
	x, y, z := v(one, 0, 0), v(0, one, 0), v(0, 0, one)
	two := list(some(), slow())
	checkTold(t, row.Rate, []told{
		{"B's less A's, X", api.Row{B: 1, Way: x}, two, -one, false},
		{"B's less A's, Y", api.Row{B: 1, Way: y}, two, 3 * one, false},
		{"B's less A's, Z", api.Row{B: 1, Way: z}, two, -3 * one, false},
		{"A's less B's", api.Row{A: 1, Way: y}, two, -3 * one, false},
		{"no way", api.Row{B: 1}, two, 0, false},
		{"a way of any length", api.Row{B: 1, Way: v(2*one, one/2, -one)}, two, 5 * one / 2, false},
		// B at (1 0 0) goes by (0 1 0) more; A at (0 0 1) by (4 3 -2) x (0 0 1), (3 -4 0).
		{"B's arm", api.Row{B: 1, Way: y, ArmB: x}, two, 4 * one, false},
		{"B's arm along the way", api.Row{B: 1, Way: x, ArmB: x}, two, -one, false},
		{"A's arm, X", api.Row{B: 1, Way: x, ArmA: z}, two, -4 * one, false},
		{"A's arm, Y", api.Row{B: 1, Way: y, ArmA: z}, two, 7 * one, false},
		{"both arms", api.Row{B: 1, Way: y, ArmA: z, ArmB: x}, two, 8 * one, false},
		{"the same arms at one place", api.Row{A: 1, B: 1, Way: y, ArmA: x, ArmB: x}, two, 0, false},
		{"other arms at one place", api.Row{A: 1, B: 1, Way: y, ArmA: x, ArmB: v(3*one, 0, 0)}, two, 2 * one, false},
		{"what else it says", api.Row{B: 1, Way: y, Goal: 5, Low: -6, High: 7, Of: 3, Rub: 8, Sum: 9}, two, 3 * one, false},
		{"down", api.Row{B: 1, Way: v(1, 0, 0)}, list(of(v(2, 0, 0), api.Vec{}), fixed()), -1, false},
		{"down, below 1", api.Row{B: 1, Way: v(1, 0, 0)}, list(of(v(-2, 0, 0), api.Vec{}), fixed()), 0, false},
		{"turns: B's less A's, X", api.Row{B: 1, Way: x, Turn: true}, two, -4 * one, false},
		{"turns: B's less A's, Z", api.Row{B: 1, Way: z, Turn: true}, two, 3 * one, false},
		{"turns: arms are nothing", api.Row{B: 1, Way: z, Turn: true, ArmA: v(one, 2, 3), ArmB: v(most+1, 5, 6)}, two, 3 * one, false},
		{"turns: a way of any length", api.Row{B: 1, Way: v(one, 2*one, 3*one), Turn: true}, two, -4*one - 6*one + 9*one, false},
	})
}

// TestR1Nobody: nobody, and what does not move, has no speed.
func TestR1Nobody(t *testing.T) {
	x, z := v(one, 0, 0), v(0, 0, one)
	two := list(some(), fixed())
	for _, n := range append(nobodies(), 1) {
		checkTold(t, row.Rate, []told{
			{"B is nobody", api.Row{A: 0, B: n, Way: x, ArmA: z}, two, -4 * one, false},
			{"A is nobody", api.Row{A: n, B: 0, Way: x, ArmB: z}, two, 4 * one, false},
			{"turns: B is nobody", api.Row{A: 0, B: n, Way: x, Turn: true}, two, -4 * one, false},
			{"turns: A is nobody", api.Row{A: n, B: 0, Way: x, Turn: true}, two, 4 * one, false},
			{"both are nobody", api.Row{A: n, B: -7, Way: x, ArmA: z, ArmB: z}, two, 0, false},
		})
	}
	checkTold(t, row.Rate, []told{
		{"no list", api.Row{Way: x}, nil, 0, false},
		{"what stands behind a list", api.Row{A: -1, B: 0, Way: x}, two[:0], 0, false},
		// The arm of one who has no speed is reckoned with, too.
		{"nobody's arm", api.Row{A: -1, B: -1, Way: x, ArmA: v(most+1, 0, 0)}, two, 0, true},
		{"a Fixed one's arm", api.Row{A: 0, B: 1, Way: x, ArmB: v(0, math.MinInt, 0)}, two, -one, true},
	})
}

// TestR1Bad: each vector or number that can not be told is noughts; what is reckoned
// with it goes on.
func TestR1Bad(t *testing.T) {
	x := v(one, 0, 0)
	heavy := func(mass int, p, l api.Vec) api.Body {
		return with(func(b *api.Body) { b.Mass.Mass, b.P, b.L = mass, p, l })
	}
	checkTold(t, row.Rate, []told{
		{"a great way", api.Row{B: 1, Way: v(0, 0, most+1)}, list(some(), slow()), 0, true},
		{"a great rate", api.Row{B: 1, Way: v(most, 0, 0)}, list(some(), fixed()), -most, false},
		{"too great a rate", api.Row{B: 1, Way: v(most, 0, 0)}, list(of(v(4*one, 0, 0), api.Vec{}), fixed()), 0, true},
		{"no mass", api.Row{B: 1, Way: x, ArmA: v(0, 0, one)}, list(heavy(0, v(one, 0, 0), v(0, 2*one, 0)), fixed()), -one, true},
		{"a great arm", api.Row{B: 1, Way: x, ArmA: v(0, most+1, 0)}, list(some(), fixed()), -one, true},
		{"too great an arm", api.Row{B: 1, Way: x, ArmA: v(0, 0, most/2)}, list(some(), fixed()), -one, true},
		{"too great a speed at an arm", api.Row{B: 1, Way: x, ArmA: v(0, 0, most/3)}, list(of(v(2*one+2, 0, 0), v(0, 6*one, 0)), fixed()), 0, true},
		{"too great a difference", api.Row{B: 1, Way: x}, list(heavy(one, v(most, 0, 0), api.Vec{}), heavy(one, v(-1, 0, 0), api.Vec{})), 0, true},
		{"the greatest difference", api.Row{B: 1, Way: x}, list(heavy(one, v(most, 0, 0), api.Vec{}), heavy(one, v(0, 0, 0), api.Vec{})), -most, false},
		{"turns: a great momentum", api.Row{B: 1, Way: x, Turn: true}, list(of(api.Vec{}, v(0, most+1, 0)), of(api.Vec{}, v(one, 0, 0))), one, true},
		{"turns: too great a difference", api.Row{B: 1, Way: x, Turn: true}, list(of(api.Vec{}, v(most, 0, 0)), of(api.Vec{}, v(-1, 0, 0))), 0, true},
		{"turns: P is nothing", api.Row{B: 1, Way: x, Turn: true}, list(of(v(most+1, 0, 0), v(one, 0, 0)), fixed()), -one, false},
	})
}

func TestR2Weight(t *testing.T) {
	x, y, z := v(one, 0, 0), v(0, one, 0), v(0, 0, one)
	two := list(some(), with(func(b *api.Body) { b.Mass = api.Mass{Mass: 4 * one, Inertia: v(8*one, one/2, one)} }))
	turned := list(with(func(b *api.Body) { b.Pose.Turn = api.Quat{W: one / 2, X: one / 2, Y: one / 2, Z: one / 2} }))
	checkTold(t, row.Weight, []told{
		{"masses", api.Row{B: 1, Way: x}, two, one/2 + one/4, false},
		{"no way", api.Row{B: 1}, two, one/2 + one/4, false},
		{"a way of any length bears upon arms alone", api.Row{B: 1, Way: v(3*one, 0, 0)}, two, one/2 + one/4, false},
		// (0 0 1) x (1 0 0) is (0 1 0), for which A yields by a half, B by 2.
		{"A's arm", api.Row{B: 1, Way: x, ArmA: z}, two, one/2 + one/2 + one/4, false},
		{"B's arm", api.Row{B: 1, Way: x, ArmB: z}, two, one/2 + one/4 + 2*one, false},
		{"both arms", api.Row{B: 1, Way: y, ArmA: x, ArmB: v(0, 0, 4*one)}, two, one/2 + one/4 + one/4 + 2*one, false},
		{"an arm along the way", api.Row{B: 1, Way: x, ArmA: x, ArmB: v(-5*one, 0, 0)}, two, one/2 + one/4, false},
		{"twice an arm is four times as much", api.Row{B: -1, Way: x, ArmA: v(0, 0, 2*one)}, two, one/2 + 2*one, false},
		{"it is turned", api.Row{B: -1, Way: x, ArmA: z}, turned, one/2 + one, false},
		{"one place counts twice", api.Row{A: 1, B: 1, Way: x, ArmA: z}, two, one/4 + 2*one + one/4, false},
		{"turns, X", api.Row{B: 1, Way: x, Turn: true}, two, one + one/8, false},
		{"turns, Y", api.Row{B: 1, Way: y, Turn: true}, two, one/2 + 2*one, false},
		{"turns, Z", api.Row{B: 1, Way: z, Turn: true}, two, one/4 + one, false},
		{"turns: twice a way is four times as much", api.Row{B: -1, Way: v(2*one, 0, 0), Turn: true}, two, 4 * one, false},
		{"turns: arms are nothing", api.Row{B: 1, Way: x, Turn: true, ArmA: v(most+1, 0, 0), ArmB: z}, two, one + one/8, false},
		{"turns: it is turned", api.Row{B: -1, Way: y, Turn: true}, turned, one, false},
		{"down", api.Row{B: -1, Way: x}, list(with(func(b *api.Body) { b.Mass.Mass = 3 * one })), 1431655765, false},
		{"down, below 0", api.Row{B: -1, Way: x}, list(with(func(b *api.Body) { b.Mass.Mass = -3 * one })), -1431655766, false},
		{"what else it says", api.Row{B: 1, Way: x, Goal: 5, Low: -6, High: 7, Of: 3, Rub: 8, Sum: 9}, two, one/2 + one/4, false},
	})
}

// TestR2Nobody: who is not Moving has no part of it, and nothing of him is reckoned.
func TestR2Nobody(t *testing.T) {
	x, z, far := v(one, 0, 0), v(0, 0, one), v(most+1, math.MinInt, 1)
	for _, n := range append(nobodies(), 1) {
		for _, kind := range []int{api.Fixed, 0, 3, -1} {
			two := list(some(), with(func(b *api.Body) { b.Kind, b.Mass, b.P, b.L = kind, api.Mass{}, far, far }))
			checkTold(t, row.Weight, []told{
				{"B is nobody", api.Row{A: 0, B: n, Way: x, ArmA: z, ArmB: far}, two, one, false},
				{"A is nobody", api.Row{A: n, B: 0, Way: x, ArmA: far, ArmB: z}, two, one, false},
				{"turns: B is nobody", api.Row{A: 0, B: n, Way: z, Turn: true}, two, one / 4, false},
				{"turns: A is nobody", api.Row{A: n, B: 0, Way: z, Turn: true}, two, one / 4, false},
				{"both are nobody", api.Row{A: n, B: -7, Way: far, ArmA: far, ArmB: far}, two, 0, false},
				{"turns: both are nobody", api.Row{A: -7, B: n, Way: far, Turn: true}, two, 0, false},
			})
		}
	}
	checkTold(t, row.Weight, []told{
		{"no list", api.Row{Way: x}, nil, 0, false},
		{"what stands behind a list", api.Row{A: -1, B: 0, Way: x}, list(some())[:0], 0, false},
	})
}

// TestR2Bad: the parts are added one by one, from 0 on: what can not be told is 0, and
// so is a sum that is too great; the next part is added to that.
func TestR2Bad(t *testing.T) {
	x, z := v(one, 0, 0), v(0, 0, one)
	heavy := func(mass int, inertia api.Vec) api.Body {
		return with(func(b *api.Body) { b.Mass = api.Mass{Mass: mass, Inertia: inertia} })
	}
	i := v(one, one, one)
	light := heavy(4, i)     // a part of 2^62 by mass alone: too great
	lighter := heavy(8, i)   // 2^61
	lightest := heavy(-8, i) // -2^61
	checkTold(t, row.Weight, []told{
		{"no mass", api.Row{B: 1, Way: x, ArmA: z}, list(heavy(0, i), some()), one + one/2, true},
		{"too great a part", api.Row{B: 1, Way: x, ArmA: z}, list(light, some()), one + one/2, true},
		{"too great a sum of both", api.Row{B: 1, Way: x, ArmB: z}, list(lighter, lighter), one, true},
		{"too great a sum at its end", api.Row{B: 1, Way: x, ArmB: v(0, 0, one/2)}, list(lighter, heavy(9, v(one, 16, one))), 0, true},
		{"not too great in any order", api.Row{B: 1, Way: x}, list(lighter, lightest), 0, false},
		{"too great an arm", api.Row{B: 1, Way: x, ArmA: v(0, 0, most+1)}, list(some(), some()), one, true},
		{"too great a yield", api.Row{B: 1, Way: x, ArmA: z}, list(heavy(one, v(one, 1, one)), some()), one + one/2, true},
		{"turns: too great a way", api.Row{B: -1, Way: v(0, most, 0), Turn: true}, list(some()), 0, true},
		{"turns: mass is nothing", api.Row{B: -1, Way: x, Turn: true}, list(heavy(0, i)), one, false},
		{"turns: too great a yield", api.Row{B: 1, Way: v(0, one<<14, 0), Turn: true}, list(heavy(one, v(one, 4, one)), some()), 1 << 59, true},
		{"turns: too great a sum", api.Row{B: 1, Way: v(0, one<<14, 0), Turn: true}, list(heavy(one, v(one, one/2, one)), heavy(one, v(one, one/2, one))), 0, true},
	})
}

// TestR3Ends: the rows ahead are one of Sum 4, and one whose Sum is below 0.
func TestR3Ends(t *testing.T) {
	press := func(sum int) []api.Row { return []api.Row{{Sum: 4 * one}, {Sum: sum}} }
	for _, c := range []struct {
		name      string
		r         api.Row
		sum       int // of the row at 1
		low, high int
		bad       bool
	}{
		{"its own", api.Row{Low: -5, High: 7, Of: -1}, 0, -5, 7, false},
		{"one number", api.Row{Low: 3, High: 3, Of: -1}, 0, 3, 3, false},
		{"High below Low", api.Row{Low: 3, High: 2, Of: -1}, 0, 3, 3, false},
		{"High far below Low", api.Row{Low: math.MaxInt, High: math.MinInt, Of: -1}, 0, math.MaxInt, math.MaxInt, false},
		{"as they are", api.Row{Low: math.MinInt, High: math.MaxInt, Of: -1}, 0, math.MinInt, math.MaxInt, false},
		{"its own Sum is nothing", api.Row{Low: -5, High: 7, Of: -1, Sum: most, Rub: one}, 0, -5, 7, false},
		{"of the first row", api.Row{Low: -5, High: 7, Of: 0, Rub: one / 2}, 0, -2 * one, 2 * one, false},
		{"of the row just ahead", api.Row{Low: -5, High: 7, Of: 1, Rub: one / 2}, 6 * one, -3 * one, 3 * one, false},
		{"of itself", api.Row{Low: -5, High: 7, Of: 2, Rub: one}, 0, -5, 7, false},
		{"of a row behind it", api.Row{Low: -5, High: 7, Of: 3, Rub: one}, 0, -5, 7, false},
		{"of no row", api.Row{Low: -5, High: 7, Of: math.MaxInt, Rub: one}, 0, -5, 7, false},
		{"of no row, below 0", api.Row{Low: 5, High: 4, Of: math.MinInt, Rub: one}, 0, 5, 5, false},
		{"it does not rub", api.Row{Low: -5, High: 7, Of: 0}, 0, 0, 0, false},
		{"down", api.Row{Of: 1, Rub: one / 2}, 3, -1, 1, false},
		{"a Sum below 0", api.Row{Low: -5, High: 7, Of: 1, Rub: one / 2}, -6 * one, 0, 0, false},
		{"a Sum hardly below 0", api.Row{Low: -5, High: 7, Of: 1, Rub: 1}, -1, 0, 0, false},
		{"a Rub below 0", api.Row{Low: -5, High: 7, Of: 0, Rub: -one}, 0, 0, 0, false},
		{"both below 0", api.Row{Low: -5, High: 7, Of: 1, Rub: -one / 2}, -6 * one, -3 * one, 3 * one, false},
		{"the greatest", api.Row{Of: 1, Rub: one}, most, -most, most, false},
		{"too great", api.Row{Low: -5, High: 7, Of: 1, Rub: one + 4}, most, 0, 0, true},
		{"a great Rub", api.Row{Low: -5, High: 7, Of: 0, Rub: most + 1}, 0, 0, 0, true},
		{"a great Sum", api.Row{Low: -5, High: 7, Of: 1}, math.MinInt, 0, 0, true},
		{"a great Rub of no row", api.Row{Low: -5, High: 7, Of: 3, Rub: most + 1}, 0, -5, 7, false},
	} {
		rows := append(press(c.sum), c.r, api.Row{Low: 11, High: 12, Sum: 8 * one, Of: -1})
		ahead(t, c.name, c.bad, func(w *fx.Work) {
			if low, high := row.Ends(w, rows, 2); low != c.low || high != c.high {
				t.Errorf("%s: %d to %d, not %d to %d", c.name, low, high, c.low, c.high)
			}
		})
	}
}

// TestR3First: the first row has none ahead of it.
func TestR3First(t *testing.T) {
	rows := []api.Row{{Low: -5, High: 7, Of: 0, Rub: one, Sum: 3 * one}, {Low: -6, High: 8, Of: 0, Rub: one}}
	w := &fx.Work{}
	if low, high := row.Ends(w, rows, 0); low != -5 || high != 7 {
		t.Error(low, high)
	}
	if low, high := row.Ends(w, rows, 1); low != -3*one || high != 3*one || w.Bad {
		t.Error(low, high, w.Bad)
	}
}
