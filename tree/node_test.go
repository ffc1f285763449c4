package tree

import (
	"testing"

	"tumbler/api"
	"tumbler/pose"
)

// checked counts the leaves under n, and holds each node against its kids.
func checked(t *testing.T, x *Tree, n *node) int {
	t.Helper()
	if n.leaf() {
		if x.leaves[n.owner] != n || n.kids != [2]*node{} {
			t.Fatal(*n)
		}
		return 1
	}
	a, b := n.kids[0], n.kids[1]
	if a.up != n || b.up != n || n.box != pose.Join(a.box, b.box) || n.owner != 0 {
		t.Fatal(*n, *a, *b)
	}
	if n.tall != 1+max(a.tall, b.tall) || a.tall-b.tall > 1 || b.tall-a.tall > 1 {
		t.Fatal(n.tall, a.tall, b.tall)
	}
	return checked(t, x, a) + checked(t, x, b)
}

// whole is whether each handle has one leaf, none is far below the top, and no box is
// wider than what is below it.
func whole(t *testing.T, x *Tree) {
	t.Helper()
	if x.top == nil {
		if x.Len() != 0 {
			t.Fatal(x.Len())
		}
		return
	}
	if x.top.up != nil || checked(t, x, x.top) != x.Len() {
		t.Fatal(x.Len())
	}
}

// spot is a box of one grain; a way of 0 to 2 is along one of the axes, other ones
// are further and further, or in one place.
func spot(i, way int) api.Box {
	at := [5]api.Point{{X: 200 * i}, {Y: -200 * i}, {Z: 200 * i}, {X: i * i * 1000, Y: 7 * i}, {}}[way]
	return api.Box{Min: at, Max: at}
}

// TestNodes puts boxes in by rising places, takes each in turn to the other end, and
// drops them from one side and from both.
func TestNodes(t *testing.T) {
	for way := range 5 {
		for _, many := range []int{1, 2, 3, 4, 5, 16, 100, 1024} {
			x, _ := New(many)
			for i := range many {
				x.Put(api.Handle(i+1), spot(i, way))
				if many <= 100 {
					whole(t, x)
				}
			}
			whole(t, x)
			if many == 1024 && x.top.tall > 14 {
				t.Error(way, "too tall:", x.top.tall)
			}
			for i := range many {
				x.Move(api.Handle(i+1), spot(many+i, way))
				if many <= 100 || i%97 == 0 {
					whole(t, x)
				}
			}
			for i := range many {
				x.Drop(api.Handle(1 + (i*37+way)%many))
				if many <= 100 || i%97 == 0 {
					whole(t, x)
				}
			}
			for i := range many {
				x.Drop(api.Handle(i + 1))
			}
			whole(t, x)
			if x.top != nil {
				t.Error(way, many, "something is left")
			}
		}
	}
}

// TestNear: what lies together comes under one node, so that a search goes into one
// half alone.
func TestNear(t *testing.T) {
	x, _ := New(64)
	for i := range 64 {
		at := api.Point{X: i % 2 * 1000000, Y: i * 20, Z: i * 30 % 700}
		x.Put(api.Handle(i+1), api.Box{Min: at, Max: at})
	}
	if pose.Meet(x.top.kids[0].box, x.top.kids[1].box) {
		t.Error(x.top.kids[0].box, x.top.kids[1].box)
	}
}

// TestLeft: a loop over leaves that is left early is told none further.
func TestLeft(t *testing.T) {
	x, _ := New(20)
	for i := range 20 {
		x.Put(api.Handle(i+1), spot(0, 0))
	}
	for stop := 1; stop <= 20; stop++ {
		n := 0
		for leaf := range x.meeting(spot(0, 0)) {
			if n++; n > stop || leaf.owner == 0 {
				t.Fatal(n, leaf.owner)
			}
			if n == stop {
				break
			}
		}
		if n != stop {
			t.Error(n, stop)
		}
	}
}

// TestGrowth: what a box would have to grow by, in each direction.
func TestGrowth(t *testing.T) {
	b := api.Box{Min: api.Point{X: 1, Y: 2, Z: 3}, Max: api.Point{X: 11, Y: 22, Z: 33}}
	if n := girth(b); n != 60 {
		t.Error(n)
	}
	for _, c := range []struct {
		at   api.Point
		want int
	}{
		{api.Point{X: 1, Y: 2, Z: 3}, 0}, {api.Point{X: 11, Y: 22, Z: 33}, 0},
		{api.Point{X: 0, Y: 2, Z: 3}, 1}, {api.Point{X: 1, Y: 0, Z: 3}, 2}, {api.Point{X: 1, Y: 2, Z: 0}, 3},
		{api.Point{X: 15, Y: 2, Z: 3}, 4}, {api.Point{X: 1, Y: 27, Z: 3}, 5}, {api.Point{X: 1, Y: 2, Z: 39}, 6},
		{api.Point{X: -1, Y: 23, Z: 34}, 4},
	} {
		if n := growth(b, api.Box{Min: c.at, Max: c.at}); n != c.want {
			t.Error(c, n)
		}
	}
}
