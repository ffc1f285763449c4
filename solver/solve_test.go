package solver_test

import (
	"math"
	"reflect"
	"slices"
	"testing"

	"tumbler/api"
	"tumbler/fx"
	"tumbler/solver"
)

// goes is a Moving body in the middle, of mass and inertia One, of the speed p.
func goes(p api.Vec) api.Body {
	return api.Body{Kind: api.Moving, Pose: api.Pose{Turn: api.Quat{W: one}}, P: p, Mass: api.Mass{Mass: one, Inertia: v(one, one, one)}}
}

// along is a row of nobody and the first body, along X, hardly with ends: the rate is
// the body's speed.
func along(goal int) api.Row {
	return api.Row{A: -1, Way: v(one, 0, 0), Goal: goal, Low: -most, High: most, Of: -1}
}

// between is such a row, from low to high.
func between(goal, low, high int) api.Row {
	r := along(goal)
	r.Low, r.High = low, high
	return r
}

// summed are rows of these sums.
func summed(rows []api.Row, sums ...int) []api.Row {
	rows = slices.Clone(rows)
	for i, n := range sums {
		rows[i].Sum = n
	}
	return rows
}

// sweepsOf are so many as are done, however many are asked.
func sweepsOf(n int) int { return min(max(n, 0), 16) }

// manySweeps are some numbers of sweeps, those beyond what is done with them.
func manySweeps() []int {
	return []int{math.MinInt, -1, 0, 1, 2, 3, 15, 16, 17, 18, 99, math.MaxInt}
}

// lists are what Solve changes.
type lists struct {
	rows []api.Row
	l    []api.Body
}

func (x lists) copied() lists { return lists{slices.Clone(x.rows), slices.Clone(x.l)} }

// checkSolve asks with a work that is not Bad and with one that is.
func checkSolve(t *testing.T, name string, x lists, sweeps int, want lists, left int, bad bool) {
	t.Helper()
	for _, was := range []bool{false, true} {
		got, w := x.copied(), &fx.Work{Bad: was}
		if n := solver.Solve(w, got.rows, got.l, sweeps); n != left {
			t.Errorf("%s, %d sweeps: left: %d, not %d", name, sweeps, n, left)
		}
		if !slices.Equal(got.rows, want.rows) || !reflect.DeepEqual(got.l, want.l) {
			t.Errorf("%s, %d sweeps: %+v, not %+v", name, sweeps, got, want)
		}
		if w.Bad != (was || bad) {
			t.Errorf("%s, %d sweeps: Bad ahead %v: Bad %v", name, sweeps, was, w.Bad)
		}
	}
}

// checkStays: what could not be told leaves all as it was.
func checkStays(t *testing.T, name string, x lists, sweeps int) {
	t.Helper()
	checkSolve(t, name, x, sweeps, x, 0, true)
}

// TestV2Example is the chapter's.
func TestV2Example(t *testing.T) {
	l := list(goes(v(0, -one, 0)))
	rows := solver.Rows(&fx.Work{}, up(spots(0)...), -1, 0, l, 0, 0)
	x := lists{rows, l}
	checkSolve(t, "a ball on the ground", x, 1, lists{summed(rows, one), list(goes(api.Vec{}))}, 0, false)
	checkSolve(t, "no sweep", x, 0, x, one, false)
}

// TestV2Sweeps: two rows that wish what can not be together never come to an end, so
// that each sweep is to be seen: the last row has the last word.
func TestV2Sweeps(t *testing.T) {
	rows := []api.Row{along(one), along(3 * one)}
	x := lists{rows, list(goes(api.Vec{}))}
	for _, asked := range manySweeps() {
		want, left := x, 3*one
		if n := sweepsOf(asked); n > 0 {
			want, left = lists{summed(rows, (3-2*n)*one, 2*n*one), list(goes(v(3*one, 0, 0)))}, 2*one
		}
		checkSolve(t, "two wishes", x, asked, want, left, false)
	}
}

// TestV2Order: rows are solved in their order, each by what those ahead of it left.
func TestV2Order(t *testing.T) {
	for _, c := range []struct {
		name      string
		rows      []api.Row
		sums      []int
		end, left int
	}{
		{"the second one is met", []api.Row{between(one, 0, 9*one), between(2*one, 0, 9*one)}, []int{one, one}, 2 * one, one},
		{"the first one has done it", []api.Row{between(2*one, 0, 9*one), between(one, 0, 9*one)}, []int{2 * one, 0}, 2 * one, 0},
		{"the first one does what it may", []api.Row{between(2*one, 0, one), between(2*one, 0, 9*one)}, []int{one, one}, 2 * one, 0},
		{"three", []api.Row{between(3*one, 0, one), between(3*one, 0, one/2), between(3*one, 0, 4*one)}, []int{one, one / 2, 3 * one / 2}, 3 * one, 0},
	} {
		x := lists{c.rows, list(goes(api.Vec{}))}
		checkSolve(t, c.name, x, 1, lists{summed(c.rows, c.sums...), list(goes(v(c.end, 0, 0)))}, c.left, false)
	}
}

// TestV2Left: it is the greatest of all rows, by its size, within the ends, wherever
// that row stands.
func TestV2Left(t *testing.T) {
	for _, c := range []struct {
		name string
		rows []api.Row
		left int
	}{
		{"none", nil, 0},
		{"one", []api.Row{along(5)}, 5},
		{"below 0", []api.Row{along(-5)}, 5},
		{"the first one", []api.Row{along(7), along(5), along(-6)}, 7},
		{"the first one, below 0", []api.Row{along(-7), along(5), along(6)}, 7},
		{"in the middle", []api.Row{along(-5), along(7), along(6)}, 7},
		{"in the middle, below 0", []api.Row{along(5), along(-7), along(6)}, 7},
		{"the last one", []api.Row{along(1), along(-6), along(7)}, 7},
		{"the last one, below 0", []api.Row{along(1), along(6), along(-7)}, 7},
		{"what can not be had is not left", []api.Row{between(9, 0, 4), between(-9, 0, 4)}, 4},
		{"a Sum beyond its ends", summed([]api.Row{between(0, 0, 4)}, 11), 7},
		{"less the Sum", summed([]api.Row{along(5)}, 3), 5},
		{"the greatest", []api.Row{along(most)}, most},
		{"the greatest, below 0", []api.Row{along(-most)}, most},
		{"of nobody", []api.Row{{A: -1, B: 1, Way: v(one, 0, 0), Goal: 9, High: 9, Of: -1}, along(2)}, 2},
		{"what rubs", []api.Row{{A: -1, B: -1, Of: -1, Sum: 8}, {A: -1, Way: v(one, 0, 0), Goal: 9, Of: 0, Rub: one / 2}}, 4},
	} {
		x := lists{c.rows, list(goes(api.Vec{}))}
		checkSolve(t, c.name, x, 0, x, c.left, false)
	}
}

// TestV2LeftBehind: it is told behind the sweeps, by what they left.
func TestV2LeftBehind(t *testing.T) {
	rows := []api.Row{along(one), between(3*one, 0, one/2)}
	x := lists{rows, list(goes(api.Vec{}))}
	checkSolve(t, "one sweep", x, 1, lists{summed(rows, one, one/2), list(goes(v(3*one/2, 0, 0)))}, one/2, false)
	checkSolve(t, "two sweeps", x, 2, lists{summed(rows, one/2, one/2), list(goes(v(one, 0, 0)))}, 0, false)
	checkSolve(t, "no more", x, 9, lists{summed(rows, one/2, one/2), list(goes(v(one, 0, 0)))}, 0, false)
}

// TestV2Contact: a ball that slides over the ground is held by what presses, and slowed
// by a part of that.
func TestV2Contact(t *testing.T) {
	l := list(goes(v(one, -one, 0)))
	for rub, x := range map[int]int{one / 4: 3 * one / 4, one / 2: one / 2, one: 0, 2 * one: 0} {
		rows := solver.Rows(&fx.Work{}, up(spots(0)...), -1, 0, l, rub, 0)
		want := lists{summed(rows, one, 0, one-x), list(goes(v(x, 0, 0)))}
		checkSolve(t, "a ball that slides", lists{rows, l}, 1, want, 0, false)
	}
}

// TestV2Two: what one of two gets the other one gets back; whoever no row speaks of
// stays as he is.
func TestV2Two(t *testing.T) {
	rows := []api.Row{{A: 2, B: 0, Way: v(one, 0, 0), High: press, Of: -1}}
	still := some(v(one, 2, 3))
	x := lists{rows, list(goes(v(-3*one, 0, 0)), still, goes(v(one, one, 0)))}
	want := lists{summed(rows, 2*one), list(goes(v(-one, 0, 0)), still, goes(v(-one, one, 0)))}
	for _, n := range []int{1, 2, 99} {
		checkSolve(t, "two", x, n, want, 0, false)
	}
	wall := kind(api.Fixed, v(one, 2, 3))
	x.l[2] = wall
	want = lists{summed(rows, 3*one), list(goes(api.Vec{}), still, wall)}
	checkSolve(t, "a wall", x, 1, want, 0, false)
}

// TestV2Nothing: nothing is solved, and nothing is left.
func TestV2Nothing(t *testing.T) {
	for _, n := range manySweeps() {
		w := &fx.Work{}
		if left := solver.Solve(w, nil, nil, n); left != 0 || w.Bad {
			t.Error("nothing at all:", left, w.Bad)
		}
		bad := list(goes(v(math.MinInt, most+1, 0)))
		checkSolve(t, "no rows", lists{nil, bad}, n, lists{nil, bad}, 0, false)
		rows := []api.Row{along(one)}
		checkSolve(t, "no bodies", lists{rows, nil}, n, lists{rows, nil}, 0, false)
	}
}

// TestV2Stays: wherever something can not be told, all stays as it was, what was
// solved ahead of it with it.
func TestV2Stays(t *testing.T) {
	l := list(goes(v(one, 0, 0)))
	good, bad := along(2*one), along(most+1)
	for n := range 5 {
		checkStays(t, "the only row", lists{[]api.Row{bad}, l}, n)
		checkStays(t, "the first row", lists{[]api.Row{bad, good, good}, l}, n)
		checkStays(t, "in the middle", lists{[]api.Row{good, bad, good}, l}, n)
		checkStays(t, "the last row", lists{[]api.Row{good, good, bad}, l}, n)
		// Of nobody alone, the Wish can be told, but not the Wish less the Sum.
		checkStays(t, "a great Sum", lists{summed([]api.Row{{A: -1, B: -1, Of: -1}}, most+1), l}, n)
		checkStays(t, "a great Sum, below 0", lists{summed([]api.Row{{A: -1, B: -1, Of: -1}}, math.MinInt), l}, n)
	}
}

// TestV2StaysLate: what the sweeps lead to may be what can not be told.
func TestV2StaysLate(t *testing.T) {
	const big = 1 << 60
	rows := []api.Row{along(-big), along(big)}
	x := lists{rows, list(goes(api.Vec{}))}
	checkSolve(t, "ahead of it", x, 1, lists{summed(rows, -big, 2*big), list(goes(v(big, 0, 0)))}, 2*big, false)
	for _, n := range []int{2, 3, 16, 99} {
		checkStays(t, "in the second sweep", x, n)
	}
	rows = []api.Row{along(-big * 3 / 2), along(big * 3 / 2)}
	x = lists{rows, list(goes(api.Vec{}))}
	checkSolve(t, "no sweep", x, 0, x, big*3/2, false)
	checkStays(t, "behind the sweeps, in what is left", x, 1)
}

// TestV2Memory: but for the rows' Sums and the momenta of the bodies that they speak
// of nothing is written into, nor what stands behind the lists; the bodies' points
// stay where they are.
func TestV2Memory(t *testing.T) {
	for _, bad := range []bool{false, true} {
		points := []api.Point{{}, {X: 4}, {Y: 4}, {Z: 4}, {X: 77}}
		fresh := func() []api.Body {
			l := list(some(api.Vec{}), some(v(1, 2, 3)), some(v(4, 5, 6)), some(v(7, 8, 9)))
			for i := range l {
				l[i].Shape.Points = points[:4]
			}
			return l
		}
		room := fresh()
		r := api.Row{A: 0, B: 2, Way: v(one, 0, 0), ArmA: v(0, one, 0), Goal: one, High: press, Of: -1}
		if bad {
			r.Goal = most + 1
		}
		rows := []api.Row{r, {A: 2, B: 3, Way: v(0, one, 0), High: one, Of: -1, Sum: 4}, {B: 1, Way: v(one, 0, 0), Goal: one, High: press, Of: -1, Sum: 3}}
		was := slices.Clone(rows)
		w := &fx.Work{}
		solver.Solve(w, rows[:2], room[:3], 3)
		if w.Bad != bad || (rows[0].Sum == 0) != bad || (rows[1].Sum == 4) != bad {
			t.Errorf("%+v, Bad %v", rows, w.Bad)
		}
		rows[0].Sum, rows[1].Sum = was[0].Sum, was[1].Sum
		if !slices.Equal(rows, was) {
			t.Errorf("%+v, not %+v", rows, was)
		}
		for i, b := range fresh() {
			if spoken := i == 0 || i == 2; spoken && !bad {
				if room[i].P == b.P {
					t.Errorf("%d is not moved", i)
				}
				b.P, b.L = room[i].P, room[i].L
			}
			if !reflect.DeepEqual(room[i], b) || &room[i].Shape.Points[0] != &points[0] {
				t.Errorf("Bad %v: %d: %+v, not %+v", bad, i, room[i], b)
			}
		}
		if !slices.Equal(points, []api.Point{{}, {X: 4}, {Y: 4}, {Z: 4}, {X: 77}}) {
			t.Error("the points:", points)
		}
	}
}
