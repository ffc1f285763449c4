package event

import (
	"slices"
	"testing"

	"tumbler/api"
)

// TestTakenIsNotKept: what was taken is kept nowhere in a queue, nor in a clone of it.
func TestTakenIsNotKept(t *testing.T) {
	q, _ := New(5)
	for i := range 13 {
		x := api.Event{Kind: 1, A: api.Handle(i + 1)}
		q.Push(x, x)
		q.Take()
		q.Take()
		for _, r := range []*Queue{q, q.Clone()} {
			if len(r.ring) != 5 || !slices.Equal(r.ring, make([]api.Event, 5)) {
				t.Errorf("%d: %v", i, r.ring)
			}
		}
	}
}
