package row_test

import (
	"math"
	"reflect"
	"slices"
	"testing"

	"tumbler/api"
	"tumbler/fx"
	"tumbler/row"
)

// plain is a Moving body that stands still, of the inertia One all around.
func plain(mass int) api.Body {
	return api.Body{Kind: api.Moving, Pose: api.Pose{Turn: api.Quat{W: one}}, Mass: api.Mass{Mass: mass, Inertia: v(one, one, one)}}
}

// carries is a body with other momenta.
func carries(b api.Body, p, l api.Vec) api.Body {
	b.P, b.L = p, l
	return b
}

// goes is a plain body of mass One of the speed x along X.
func goes(x int) api.Body { return carries(plain(one), v(x, 0, 0), api.Vec{}) }

// along is a row of the first body against nobody, along X; the rate is what the
// body's speed is, the other way round.
func along(goal, low, high, sum int) api.Row {
	return api.Row{A: 0, B: -1, Way: v(one, 0, 0), Goal: goal, Low: low, High: high, Of: -1, Sum: sum}
}

func TestR4Wish(t *testing.T) {
	// 2^64 by these masses is 64, and just below.
	at64, at63 := plain(1<<58), plain(1<<58+1)
	for _, c := range []struct {
		name string
		of   api.Body
		r    api.Row
		want int
		bad  bool
	}{
		{"what the rate lacks", goes(2 * one), along(0, 0, 9*one, 0), 2 * one, false},
		{"what the goal asks", goes(0), along(3*one, 0, 9*one, 0), 3 * one, false},
		{"both", goes(2 * one), along(3*one, 0, 9*one, 0), 5 * one, false},
		{"and the Sum", goes(2 * one), along(3*one, 0, 9*one, one), 6 * one, false},
		{"less", goes(-2 * one), along(one, -9*one, 9*one, 4*one), 3 * one, false},
		{"by the Weight", carries(plain(2*one), v(2*one, 0, 0), api.Vec{}), along(0, 0, 9*one, one), 3 * one, false},
		{"down", carries(plain(one/3), api.Vec{}, api.Vec{}), along(1, -9, 9, 0), 0, false},
		{"down, below 0", carries(plain(one/3), api.Vec{}, api.Vec{}), along(-1, -9, 9, 0), -1, false},
		{"nothing", goes(2 * one), along(-2*one, 0, 9*one, one), one, false},

		{"at High", goes(2 * one), along(0, 0, 2*one, 0), 2 * one, false},
		{"beyond High", goes(2 * one), along(0, 0, 2*one-1, 0), 2*one - 1, false},
		{"at Low", goes(-2 * one), along(0, -2*one, 0, 0), -2 * one, false},
		{"beyond Low", goes(-2 * one), along(0, -2*one+1, 0, 0), -2*one + 1, false},
		{"beyond both", goes(2 * one), along(0, one, one, 0), one, false},
		{"High below Low", goes(0), along(0, one, -one, 0), one, false},
		{"a Sum beyond High comes back", goes(0), along(0, 0, one, 7*one), one, false},
		{"a Sum beyond Low comes back", goes(0), along(0, 0, one, -7*one), 0, false},
		{"ends without end", goes(2 * one), along(0, math.MinInt, math.MaxInt, 0), 2 * one, false},
		{"ends that are great", goes(2 * one), along(0, most+1, math.MaxInt, 0), most + 1, false},

		{"a Weight of 64", at64, along(one, 0, most, 0), 1 << 58, false},
		{"a Weight of 63", at63, along(one, 0, most, 0), 0, false},
		{"a Weight of 63: the Sum", at63, along(one, 0, most, 5), 5, false},
		// What it is then is the Sum itself: no more is reckoned, and no end is asked.
		{"a Weight of 63: a Sum beyond High", at63, along(one, 0, 4, 5), 5, false},
		{"a Weight of 63: a Sum beyond Low", at63, along(one, 0, 4, -5), -5, false},
		{"a Weight of 63: a great Goal", at63, along(most+1, 0, most, 5), 5, false},
		{"a Weight of 63: a great Sum", at63, along(one, 0, most, math.MinInt), math.MinInt, false},
		{"a Weight of 63: a great P", carries(at63, v(most+1, 0, 0), api.Vec{}), along(one, 0, most, 5), 5, false},
		{"a Weight below 0", plain(-one), along(one, 0, most, 5), 5, false},
		{"no Weight", fixed(), along(one, 0, most, 5), 5, false},
		{"no Weight that can be told", plain(0), along(one, 0, most, 5), 5, true},

		// What can not be told is 0, and the next is reckoned with that.
		{"a great Goal", goes(2 * one), along(most+1, 0, 9*one, one), one, true},
		{"too great a lack", goes(1), along(most, 0, 9*one, one), one, true},
		{"too great a part", plain(2 * one), along(most/2+1, 0, 9*one, one), one, true},
		{"a great Sum", goes(2 * one), along(0, -one, 9*one, most+1), 0, true},
		{"too great a Sum", goes(2), along(0, one, 9*one, most-1), one, true},
		{"no Rate that can be told", carries(plain(one), v(most+1, 0, 0), api.Vec{}), along(3*one, 0, 9*one, one), 4 * one, true},
	} {
		ahead(t, c.name, c.bad, func(w *fx.Work) {
			if got := row.Wish(w, []api.Row{c.r}, 0, list(c.of)); got != c.want {
				t.Errorf("%s: %d, not %d", c.name, got, c.want)
			}
		})
	}
}

// TestR4Weight: a Weight may also come of turning alone; 2^19 by 2^19 is 64 by One.
func TestR4Weight(t *testing.T) {
	for way, want := range map[int]int{1 << 19: 1<<58 + 7, 1<<19 - 1: 7, 0: 7} {
		w := &fx.Work{}
		rows := []api.Row{{A: -1, B: 0, Way: v(0, way, 0), Turn: true, Goal: one, High: most, Of: -1, Sum: 7}}
		if got := row.Wish(w, rows, 0, list(plain(one))); got != want || w.Bad {
			t.Errorf("%d: %d, not %d; Bad %v", way, got, want, w.Bad)
		}
	}
}

// TestR4Rubs: a row that rubs has its Ends by a row ahead of it, as that is now.
func TestR4Rubs(t *testing.T) {
	w := &fx.Work{}
	rows := []api.Row{{Sum: 4 * one}, along(0, -9*one, 9*one, 0)}
	rows[1].Of, rows[1].Rub = 0, one/2
	for _, c := range []struct{ press, speed, want int }{
		{4 * one, 3 * one, 2 * one}, {4 * one, -3 * one, -2 * one}, {4 * one, one, one}, {8 * one, 3 * one, 3 * one}, {-4 * one, 3 * one, 0},
	} {
		rows[0].Sum = c.press
		if got := row.Wish(w, rows, 1, list(goes(c.speed))); got != c.want || w.Bad {
			t.Errorf("%+v: %d, Bad %v", c, got, w.Bad)
		}
	}
	rows[0].Sum = most + 1
	if got := row.Wish(w, rows, 1, list(goes(one))); got != 0 || !w.Bad {
		t.Errorf("a great Sum: %d, Bad %v", got, w.Bad)
	}
}

// lists are both lists that Solve changes.
type lists struct {
	rows []api.Row
	l    []api.Body
}

// solved is a row and bodies, and what becomes of both.
type solved struct {
	name string
	r    api.Row
	l    []api.Body
	sum  int
	want []api.Body
}

// framed puts a row and bodies between others, which nobody may touch; the row is at 1.
func framed(r api.Row, l []api.Body) lists {
	rows := []api.Row{{A: 0, B: 1, Way: v(one, 2, 3), Goal: 4, Sum: 5}, r, {A: 1, B: 0, Way: v(6, one, 7), Goal: 8, Sum: 9}}
	return lists{rows, append(slices.Clone(l), some(), goes(one))}
}

// checkSolved solves with a work that is not Bad and with one that is: both lists must
// become the same.
func checkSolved(t *testing.T, cases []solved) {
	t.Helper()
	for _, c := range cases {
		want := framed(c.r, c.want)
		want.rows[1].Sum = c.sum
		ahead(t, c.name, false, func(w *fx.Work) {
			t.Helper()
			got := framed(c.r, c.l)
			if row.Solve(w, got.rows, 1, got.l); !reflect.DeepEqual(got, want) {
				t.Errorf("%s: %+v, not %+v", c.name, got, want)
			}
		})
	}
}

// checkStays solves what can not be: the work must become Bad, and nothing else.
func checkStays(t *testing.T, name string, r api.Row, l ...api.Body) {
	t.Helper()
	ahead(t, name, true, func(w *fx.Work) {
		t.Helper()
		got := framed(r, l)
		if row.Solve(w, got.rows, 1, got.l); !reflect.DeepEqual(got, framed(r, l)) {
			t.Errorf("%s: %+v", name, got)
		}
	})
}

func TestR5Push(t *testing.T) {
	x, y, z := v(one, 0, 0), v(0, one, 0), v(0, 0, one)
	still := plain(one)
	checkSolved(t, []solved{
		{"A against nobody", along(0, 0, 9*one, 0), list(goes(2 * one)), 2 * one, list(goes(0))},
		{"to High", along(0, 0, one, 0), list(goes(2 * one)), one, list(goes(one))},
		{"to Low", along(0, -9*one, 0, 0), list(goes(2 * one)), 0, list(goes(2 * one))},
		{"what the Sum lacks alone", along(0, 0, 9*one, 5*one), list(goes(2 * one)), 7 * one, list(goes(0))},
		{"a Sum that goes back", along(0, 0, 9*one, 5*one), list(goes(-2 * one)), 3 * one, list(goes(0))},
		{"B against nobody", api.Row{A: -1, B: 0, Way: x, High: 9 * one, Of: -1}, list(goes(-2 * one)), 2 * one, list(goes(0))},
		{"A against a Fixed one", api.Row{A: 0, B: 1, Way: x, High: 9 * one, Of: -1}, list(goes(2*one), fixed()), 2 * one, list(goes(0), fixed())},
		{"both", api.Row{A: 0, B: 1, Way: x, High: 9 * one, Of: -1}, list(goes(4*one), goes(0)), 2 * one, list(goes(2*one), goes(2*one))},
		{"both, the other way round", api.Row{A: 1, B: 0, Way: x, Low: -9 * one, Of: -1}, list(goes(4*one), goes(0)), -2 * one, list(goes(2*one), goes(2*one))},
		// The Weight is 1 of each middle, and 1 of B's arm, 4 of A's.
		{"both arms", api.Row{A: 0, B: 1, Way: y, ArmA: v(0, 0, 2*one), ArmB: x, Goal: 14 * one, High: 9 * one, Of: -1}, list(still, still), 2 * one,
			list(carries(still, v(0, -2*one, 0), v(4*one, 0, 0)), carries(still, v(0, 2*one, 0), v(0, 0, 2*one)))},
		{"a way of any length", api.Row{A: 0, B: 1, Way: v(0, 0, 3*one), Goal: 2 * one, High: 9 * one, Of: -1}, list(still, still), one,
			list(carries(still, v(0, 0, -3*one), api.Vec{}), carries(still, v(0, 0, 3*one), api.Vec{}))},
		// What is pushed is rounded down once, and turned about: not rounded again.
		{"down", api.Row{A: 0, B: 1, Way: v(1, one, -1), Goal: 2, High: 9, Of: -1}, list(still, still), 1,
			list(carries(still, v(0, -1, 1), api.Vec{}), carries(still, v(0, 1, -1), api.Vec{}))},
		{"the same arms at one place", api.Row{A: 0, B: 0, Way: y, ArmA: x, ArmB: x, Goal: 4 * one, High: 9 * one, Of: -1}, list(still), one, list(still)},
		{"other arms at one place", api.Row{A: 0, B: 0, Way: y, ArmA: x, ArmB: v(3*one, 0, 0), Goal: 12 * one, High: 9 * one, Of: -1}, list(still), one,
			list(carries(still, api.Vec{}, v(0, 0, 2*one)))},
		{"nobody at all", api.Row{A: -1, B: 7, Way: x, ArmA: y, ArmB: z, Goal: one, High: 9 * one, Of: -1, Sum: 3}, list(still), 3, list(still)},
		{"a row that rubs", api.Row{A: 0, B: -1, Way: x, Of: 0, Rub: 2 * one}, list(goes(2 * one)), 10, list(goes(2*one - 10))},
	})
}

func TestR5Turn(t *testing.T) {
	x, z := v(one, 0, 0), v(0, 0, one)
	still := plain(one)
	spins := func(l api.Vec) api.Body { return carries(plain(one), v(1, 2, 3), l) }
	checkSolved(t, []solved{
		{"both", api.Row{A: 0, B: 1, Way: z, Turn: true, Goal: 4 * one, High: 9 * one, Of: -1}, list(spins(x), still), 2 * one,
			list(spins(v(one, 0, -2*one)), carries(still, api.Vec{}, v(0, 0, 2*one)))},
		{"A against nobody", api.Row{A: 0, B: -1, Way: x, Turn: true, High: 9 * one, Of: -1}, list(spins(x)), one, list(spins(api.Vec{}))},
		{"B against nobody", api.Row{A: 9, B: 0, Way: x, Turn: true, Low: -9 * one, Of: -1}, list(spins(x)), -one, list(spins(api.Vec{}))},
		{"arms are nothing", api.Row{A: 0, B: 1, Way: z, ArmA: v(most+1, 5, 6), ArmB: v(7, 8, 9), Turn: true, Goal: 4 * one, High: 9 * one, Of: -1},
			list(spins(x), fixed()), 4 * one, list(spins(v(one, 0, -4*one)), fixed())},
		{"down", api.Row{A: 0, B: 1, Way: v(-1, one, 1), Turn: true, Goal: 2, High: 9, Of: -1}, list(still, still), 1,
			list(carries(still, api.Vec{}, v(1, -1, 0)), carries(still, api.Vec{}, v(-1, 1, 0)))},
		{"one place", api.Row{A: 0, B: 0, Way: z, Turn: true, Goal: 4 * one, High: 9 * one, Of: -1}, list(spins(x)), 2 * one, list(spins(x))},
		{"one place, B's part first", api.Row{A: 0, B: 0, Way: x, Turn: true, Goal: 4, High: 9, Of: -1}, list(spins(v(-most, 0, 0))), 2, list(spins(v(-most, 0, 0)))},
	})
	checkStays(t, "one place: B's part is too great", api.Row{A: 0, B: 0, Way: x, Turn: true, Goal: 4, High: 9, Of: -1}, spins(v(most, 0, 0)))
	checkStays(t, "B's part is too great", api.Row{A: 0, B: 1, Way: x, Turn: true, Goal: most, Low: 9, High: 9, Of: -1}, spins(api.Vec{}), spins(v(most, 0, 0)))
	checkStays(t, "A's part is too great", api.Row{A: 1, B: 0, Way: x, Turn: true, Goal: most, Low: 9, High: 9, Of: -1}, spins(api.Vec{}), spins(v(-most, 0, 0)))
}

// TestR5OnePlace: there, too, B's part is done ahead of A's: it is to be told by what
// is too great in between.
func TestR5OnePlace(t *testing.T) {
	r := api.Row{A: 0, B: 0, Way: v(one, 0, 0), Goal: 4, High: 9, Of: -1}
	checkSolved(t, []solved{{"B's part first", r, list(goes(-most)), 2, list(goes(-most))}})
	checkStays(t, "B's part is too great", r, goes(most))
	r.Goal, r.Low = -4, -9
	checkSolved(t, []solved{{"B's part first, below 0", r, list(goes(most)), -2, list(goes(most))}})
	checkStays(t, "B's part is too great, below 0", r, goes(-most))
}

// TestR5Stays: whatever could not be told, both lists stay as they were.
func TestR5Stays(t *testing.T) {
	x, far := v(one, 0, 0), v(0, most+1, 0)
	still, slowly := plain(one), plain(one)
	slowly.Mass.Inertia.Y = 1 << 45 // so that what it turns by can be told still
	checkStays(t, "the Wish", along(most+1, 0, 9*one, 0), goes(2*one))
	checkStays(t, "the Weight", along(0, 0, 9*one, 0), plain(0))
	checkStays(t, "the Ends", api.Row{A: 0, B: -1, Way: x, Of: 0, Rub: most + 1}, goes(2*one))
	checkStays(t, "the Wish less the Sum", along(0, -most, -most, 2), goes(0))
	checkStays(t, "a Wish that is great", along(0, most+1, most+1, 0), goes(0))
	checkStays(t, "a Sum that is great, and nothing to be wished", along(0, 0, 9, most+1), fixed())
	checkStays(t, "the impulse", api.Row{A: 0, B: -1, Way: v(1<<17, 1<<60, 0), Goal: most, High: most, Of: -1}, still)
	checkStays(t, "a way that is great, and nobody", api.Row{A: -1, B: -1, Way: far, Of: -1}, still)
	checkStays(t, "B's P, and A's is done", api.Row{A: 0, B: 1, Way: x, Goal: most, Low: 9, High: 9, Of: -1}, still, goes(most))
	checkStays(t, "A's P, and B's is done", api.Row{A: 0, B: 1, Way: x, Goal: most, Low: 9, High: 9, Of: -1}, goes(-most), still)
	checkStays(t, "B's L", api.Row{A: 0, B: 1, Way: x, ArmB: v(0, 0, 2*one), Low: one, High: one, Of: -1}, still, carries(slowly, api.Vec{}, v(0, most-one, 0)))
	checkStays(t, "A's L", api.Row{A: 1, B: 0, Way: x, ArmA: v(0, 0, 2*one), Low: one, High: one, Of: -1}, still, carries(slowly, api.Vec{}, v(0, one-most, 0)))
	checkStays(t, "an arm that is great", api.Row{A: 0, B: -1, Way: x, ArmA: far, High: one, Of: -1}, still)
	checkStays(t, "a P that is great, and nothing to be wished", api.Row{A: 0, B: -1, High: one, Of: -1}, carries(plain(1<<60), far, api.Vec{}))
}

// TestR5Nothing: what is not reckoned makes nothing Bad: of one who is not Moving no
// momentum is asked.
func TestR5Nothing(t *testing.T) {
	far := v(math.MinInt, most+1, 1)
	for _, kind := range []int{api.Fixed, 0, 3} {
		wall := with(func(b *api.Body) {
			b.Kind, b.P, b.L, b.Mass, b.Pose.Turn = kind, far, far, api.Mass{}, api.Quat{X: math.MinInt}
		})
		checkSolved(t, []solved{
			{"a wall as B", api.Row{A: 0, B: 1, Way: v(one, 0, 0), ArmB: v(one, 2, 3), High: 9 * one, Of: -1}, list(goes(2*one), wall), 2 * one, list(goes(0), wall)},
			{"a wall as A", api.Row{A: 1, B: 0, Way: v(one, 0, 0), ArmA: v(one, 2, 3), Low: -9 * one, Of: -1}, list(goes(2*one), wall), -2 * one, list(goes(0), wall)},
			{"walls alone", api.Row{A: 0, B: 1, Way: v(one, 0, 0), ArmA: far, ArmB: far, Turn: true, Goal: one, High: 9 * one, Of: -1, Sum: 4}, list(wall, wall), 4, list(wall, wall)},
			{"walls alone: no end is asked", api.Row{A: 0, B: 1, Way: v(one, 0, 0), ArmA: far, ArmB: far, Goal: far.X, Low: 6, High: 5, Of: -1, Sum: 4}, list(wall, wall), 4, list(wall, wall)},
		})
	}
}

// TestNoRow: of an n that is no place nothing is told, and nothing is done.
func TestNoRow(t *testing.T) {
	for _, many := range []int{0, 1, 3} {
		for _, n := range []int{-1, many, many + 1, math.MinInt, math.MaxInt} {
			rows := slices.Repeat([]api.Row{along(most+1, 1, 9*one, 3)}, 4)[:many]
			l := list(goes(2 * one))
			ahead(t, "no row", false, func(w *fx.Work) {
				if low, high := row.Ends(w, rows, n); low != 0 || high != 0 {
					t.Errorf("%d of %d: %d to %d", n, many, low, high)
				}
				if wish := row.Wish(w, rows, n, l); wish != 0 {
					t.Errorf("%d of %d: %d", n, many, wish)
				}
				row.Solve(w, rows, n, l)
			})
			for _, r := range rows[:4] {
				if r != along(most+1, 1, 9*one, 3) || !reflect.DeepEqual(l, list(goes(2*one))) {
					t.Errorf("%d of %d: %+v, %+v", n, many, r, l)
				}
			}
		}
	}
	w := &fx.Work{}
	row.Solve(w, nil, 0, nil)
	if low, high := row.Ends(w, nil, 0); low != 0 || high != 0 || row.Wish(w, nil, 0, nil) != 0 || w.Bad {
		t.Error("no rows")
	}
}

// TestExamples are the chapter's.
func TestExamples(t *testing.T) {
	for _, c := range []struct{ low, high, p, sum int }{{0, 9 * one, 0, 2 * one}, {0, one, one, one}, {-9 * one, 0, 2 * one, 0}} {
		w := &fx.Work{}
		rows, l := []api.Row{along(0, c.low, c.high, 0)}, list(goes(2*one))
		if rate, weight := row.Rate(w, rows[0], l), row.Weight(w, rows[0], l); rate != -2*one || weight != one {
			t.Error(rate, weight)
		}
		if wish := row.Wish(w, rows, 0, l); wish != c.sum {
			t.Error("Wish:", wish)
		}
		row.Solve(w, rows, 0, l)
		if l[0].P != v(c.p, 0, 0) || l[0].L != (api.Vec{}) || rows[0] != along(0, c.low, c.high, c.sum) || w.Bad {
			t.Errorf("%+v: %+v, %+v, Bad %v", c, l[0], rows[0], w.Bad)
		}
	}
}

// TestMemory: but for the momenta of two bodies and the Sum of a row nothing that is
// handed in is written into, nor what stands behind its length; the bodies' points
// stay where they are.
func TestMemory(t *testing.T) {
	for _, turn := range []bool{false, true} {
		for _, bad := range []bool{false, true} {
			points := []api.Point{{}, {X: 4}, {Y: 4}, {Z: 4}, {X: 77}}
			a, b := with(func(b *api.Body) { b.Shape.Points = points[:4] }), with(func(b *api.Body) { b.Shape.Points = points[:3] })
			room := list(a, b, some(), goes(2*one))
			r := api.Row{A: 0, B: 1, Way: v(one, 0, 0), Turn: turn, Goal: one, High: 9 * one, Of: -1}
			if bad {
				r.Goal = most + 1
			}
			rows := []api.Row{r, along(0, 0, 0, 3), along(0, 0, 0, 4)}
			w := &fx.Work{}
			row.Rate(w, rows[0], room[:2])
			row.Weight(w, rows[0], room[:2])
			row.Wish(w, rows[:2], 0, room[:2])
			row.Ends(w, rows[:2], 0)
			row.Solve(w, rows[:2], 0, room[:2])
			if (rows[0].Sum == 0) != bad || w.Bad != bad {
				t.Errorf("Turn %v: %d, Bad %v", turn, rows[0].Sum, w.Bad)
			}
			rows[0].Sum = 0
			if !slices.Equal(rows, []api.Row{r, along(0, 0, 0, 3), along(0, 0, 0, 4)}) {
				t.Errorf("Turn %v: %+v", turn, rows)
			}
			for i, was := range list(a, b, some(), goes(2*one)) {
				if i < 2 {
					if (room[i].P == was.P) != (turn || bad) || (room[i].L == was.L) != (!turn || bad) || &room[i].Shape.Points[0] != &points[0] {
						t.Errorf("Turn %v, Bad %v: %d: %+v", turn, bad, i, room[i])
					}
					was.P, was.L = room[i].P, room[i].L
				}
				if !reflect.DeepEqual(room[i], was) {
					t.Errorf("Turn %v, Bad %v: %d: %+v", turn, bad, i, room[i])
				}
			}
			if !slices.Equal(points, []api.Point{{}, {X: 4}, {Y: 4}, {Z: 4}, {X: 77}}) {
				t.Errorf("Turn %v: %v", turn, points)
			}
		}
	}
}
