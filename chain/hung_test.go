package chain

import (
	"testing"

	"tumbler/api"
	"tumbler/fx"
)

// TestLinks: each part stands with its parent, in their order, and a loop may be left.
func TestLinks(t *testing.T) {
	parents := []int{-1, 0, -1, 1, 0}
	var l []api.Link
	for _, n := range parents {
		l = append(l, api.Link{Parent: n})
	}
	h := hang(&fx.Work{}, l)
	for many := range len(parents) + 1 {
		place := 0
		for p, parent := range h.links() {
			if place == many {
				break
			}
			on := h.ground
			if n := parents[place]; n >= 0 {
				on = &h.parts[n]
			}
			if p != &h.parts[place] || parent != on {
				t.Errorf("%d: %+v on %+v", place, p, parent)
			}
			place++
		}
		if place != many {
			t.Errorf("%d, not %d", place, many)
		}
	}
}
