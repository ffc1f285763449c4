package narrow

import (
	"slices"
	"testing"

	"tumbler/api"
)

const most = 1 << 20

// both are the directions, each with its other way round behind it.
func both(l ...api.Point) []api.Point {
	var out []api.Point
	for _, n := range l {
		out = append(out, n, api.Point{X: -n.X, Y: -n.Y, Z: -n.Z})
	}
	return out
}

// square and bar are two whose candidates are all unlike, but for some that are none.
func square() api.Core {
	return api.Core{
		Points: []api.Point{{}, {X: 1}, {X: 1, Y: 1}},
		Axes:   []api.Point{{X: 2}, {}, {Y: -3}},
		Edges:  []api.Point{{X: 1}, {X: 1, Y: 1}},
	}
}

func bar() api.Core {
	return api.Core{
		Points: []api.Point{{Z: 1}, {X: 1, Y: 1}},
		Axes:   []api.Point{{Y: 1, Z: 1}},
		Edges:  []api.Point{{Z: 5}, {X: 7}},
	}
}

// known are their candidates, in order, reckoned by hand.
func known() []api.Point {
	return both(
		api.Point{X: most}, api.Point{Y: -most}, api.Point{Y: most, Z: most},
		api.Point{Y: -most}, api.Point{X: most, Y: -most}, api.Point{Z: -most}, // X with X is none
		// from (0 0 0) to (0 0 1)
		api.Point{Z: most}, api.Point{Z: most}, api.Point{Z: most}, api.Point{Z: most}, // along Z it is none
		// to (1 1 0)
		api.Point{X: most, Y: most}, api.Point{Y: most}, api.Point{X: most, Y: most}, api.Point{Y: most},
		// from (1 0 0) to (0 0 1)
		api.Point{X: -most, Z: most}, api.Point{Z: most}, api.Point{X: -most / 2, Y: most / 2, Z: most}, api.Point{X: -most}, api.Point{Z: most},
		// to (1 1 0)
		api.Point{Y: most}, api.Point{Y: most}, api.Point{X: -most, Y: most}, api.Point{Y: most}, api.Point{Y: most},
		// from (1 1 0) to (0 0 1)
		api.Point{X: -most, Y: -most, Z: most}, api.Point{Y: -most, Z: most}, api.Point{Z: most}, api.Point{X: -most, Y: -most}, api.Point{Y: -most, Z: most},
		// to (1 1 0) it is none
	)
}

func TestCandidates(t *testing.T) {
	got, want := slices.Collect(candidates(square(), bar())), known()
	for i, n := range got[:min(len(got), len(want))] {
		if n != want[i] {
			t.Fatalf("%d: %v, not %v", i, n, want[i])
		}
	}
	if len(got) != len(want) {
		t.Error(len(got), len(want))
	}
}

// TestCandidatesOfPoints: with more than two points each, only axes and crosses are.
func TestCandidatesOfPoints(t *testing.T) {
	a, b := square(), bar()
	b.Points = append(b.Points, api.Point{X: 9, Y: 9, Z: 9})
	if got := slices.Collect(candidates(a, b)); !slices.Equal(got, known()[:12]) {
		t.Error(got)
	}
	a.Points = a.Points[:2]
	if got := len(slices.Collect(candidates(a, b))); got <= 12 {
		t.Error(got)
	}
	if got := slices.Collect(candidates(api.Core{}, api.Core{})); len(got) != 0 {
		t.Error(got)
	}
}

// TestLeft: a loop over candidates that is left early is told none further.
func TestLeft(t *testing.T) {
	want := known()
	for stop := 1; stop <= len(want); stop++ {
		var seen []api.Point
		for n := range candidates(square(), bar()) {
			seen = append(seen, n)
			if len(seen) == stop {
				break
			}
		}
		if !slices.Equal(seen, want[:stop]) {
			t.Fatal(stop, seen)
		}
	}
}

// TestPartsLeft: so is a loop over a part of them.
func TestPartsLeft(t *testing.T) {
	a, b := square(), bar()
	for i, all := range []func(func(api.Point) bool){each(a.Axes, b.Axes, a.Edges), crosses(a.Edges, b.Edges), ways(a, b)} {
		many := len(slices.Collect(all))
		for stop := 1; stop <= many; stop++ {
			n := 0
			all(func(api.Point) bool {
				n++
				return n < stop
			})
			if n != stop {
				t.Error(i, n, stop)
			}
		}
	}
}

// TestLongest: the longest crosses that there may be are made short, not none.
func TestLongest(t *testing.T) {
	a := api.Core{Points: []api.Point{{}, {}, {}}, Edges: []api.Point{{X: most, Y: most, Z: -most}}}
	b := api.Core{Points: []api.Point{{X: 1 << 24, Y: -1 << 24, Z: 1<<24 - 1}}, Edges: []api.Point{{X: most - 1, Y: -most, Z: -most}}}
	if n := cross(a.Edges[0], b.Edges[0]); n.X != -1<<41 {
		t.Error(n)
	}
	if got := len(slices.Collect(candidates(a, b))); got != 20 {
		t.Error(got)
	}
}

// TestRoot: at each square, just below and just above it.
func TestRoot(t *testing.T) {
	for _, r := range []int{1, 2, 3, 4, 7, 8, 9, 1000, 1<<12 - 1, 1 << 12, 1<<24 - 1, 1 << 24, 1<<24 + 1, 29058990} {
		for _, c := range []struct{ n, want int }{{r*r - 1, r - 1}, {r * r, r}, {r*r + 2*r, r}} {
			if got := root(c.n); got != c.want {
				t.Error(c, got)
			}
		}
	}
}
