package solver

import (
	"iter"

	"tumbler/api"
	"tumbler/fx"
	"tumbler/row"
)

// trial is both lists while they are worked on, as long as nobody knows yet whether
// all of it can be told.
type trial struct {
	work   *fx.Work
	rows   []api.Row
	bodies []api.Body
}

// places are those of the rows, in their order. They end where something could not be
// told: nothing of the trial is taken then.
func (t trial) places() iter.Seq[int] {
	return func(yield func(n int) bool) {
		for n := range t.rows {
			if t.work.Bad || !yield(n) {
				return
			}
		}
	}
}

func (t trial) sweep() {
	for n := range t.places() {
		row.Solve(t.work, t.rows, n, t.bodies)
	}
}

// left is how much the row lacks that is the furthest from its wish.
func (t trial) left() int {
	most := 0
	for n := range t.places() {
		lack := t.work.Sub(row.Wish(t.work, t.rows, n, t.bodies), t.rows[n].Sum)
		most = max(most, size(lack))
	}
	return most
}
