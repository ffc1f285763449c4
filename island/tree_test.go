package island

import (
	"slices"
	"testing"
)

// TestRootHangsHigher: what a root is climbed from is hung nearer to it, each on one of
// the same tree that is not greater.
func TestRootHangsHigher(t *testing.T) {
	long := trees{0, 0, 1, 2, 3, 4, 5, 6, 8, 8}
	if r := long.root(7); r != 0 {
		t.Error(r)
	}
	if !slices.Equal(long, trees{0, 0, 1, 1, 3, 3, 5, 5, 8, 8}) {
		t.Error(long)
	}
	for _, c := range [][2]int{{7, 0}, {6, 0}, {7, 0}, {0, 0}, {9, 8}, {8, 8}} {
		if r := long.root(c[0]); r != c[1] {
			t.Errorf("%d: %d in %v", c[0], r, long)
		}
	}
	if long[7] > 1 {
		t.Error(long)
	}
}

// TestJoin: the lesser root bears the greater one, in whatever order both are told.
func TestJoin(t *testing.T) {
	for _, c := range [][2]int{{2, 5}, {5, 2}, {2, 4}, {4, 2}, {1, 4}, {5, 1}} {
		l := trees{0, 1, 1, 3, 4, 4}
		l.join(c[0], c[1])
		if !slices.Equal(l, trees{0, 1, 1, 3, 1, 4}) {
			t.Errorf("%v: %v", c, l)
		}
		l.join(c[0], c[1])
		if !slices.Equal(l.roots(), []int{0, 1, 1, 3, 1, 1}) {
			t.Errorf("%v: %v", c, l)
		}
	}
}
