package ccd

import (
	"math"
	"testing"

	"tumbler/api"
	"tumbler/fx"
)

// TestAlongGreat: no way that may be is that long, so that only from within it can be
// seen that what can not be told leaves the ball where it is.
func TestAlongGreat(t *testing.T) {
	for _, bad := range []bool{false, true} {
		for _, x := range [][2]api.Vec{
			{{X: -api.Most}, {X: api.Most}}, {{Y: api.Most}, {Y: -1}}, {{Z: api.Most + 1}, {}}, {{X: 5, Y: 6}, {X: 7, Z: math.MinInt}},
		} {
			w := &fx.Work{Bad: bad}
			if at, part := along(w, x[0], x[1], 7); at != x[0] || part != 0 || !w.Bad {
				t.Error(x, at, part, w.Bad)
			}
		}
		w := &fx.Work{Bad: bad}
		if at, part := along(w, api.Vec{X: 16, Y: -16, Z: api.Most}, api.Vec{X: -17, Y: 17, Z: api.Most}, 3); at != (api.Vec{X: 9, Y: -10, Z: api.Most}) || part != 3 || w.Bad != bad {
			t.Error(at, part, w.Bad)
		}
	}
}

func TestFold(t *testing.T) {
	tell := func(text string, n int) string { return text + string(rune('a'+n)) }
	if got := fold([]int{2, 0, 1}, "-", tell); got != "-cab" {
		t.Error(got)
	}
	if got := fold(nil, "-", tell); got != "-" {
		t.Error(got)
	}
}
