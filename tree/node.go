package tree

import (
	"iter"

	"tumbler/api"
	"tumbler/pose"
)

// node is a box: a leaf's is a handle's wide one, any other's is around its kids.
type node struct {
	box   api.Box
	owner api.Handle // a leaf's
	up    *node      // nil: it is the top
	kids  [2]*node   // none of a leaf
	tall  int        // how many stand below one another under it, at most
}

func (n *node) leaf() bool { return n.tall == 0 }

// hold gives n its kids, and what follows from them.
func (n *node) hold(a, b *node) {
	n.kids = [2]*node{a, b}
	a.up, b.up = n, n
	n.box = pose.Join(a.box, b.box)
	n.tall = 1 + max(a.tall, b.tall)
}

// byTall are both kids, the taller one behind.
func (n *node) byTall() (low, high *node) {
	a, b := n.kids[0], n.kids[1]
	if a.tall > b.tall {
		return b, a
	}
	return a, b
}

// beside is the other kid of n's parent.
func (n *node) beside() *node {
	if n.up.kids[0] == n {
		return n.up.kids[1]
	}
	return n.up.kids[0]
}

// meeting goes through the leaves whose boxes meet b, in no order that is told. A
// node whose box doesn't meet b has nothing below it that does, whatever box b is.
func (t *Tree) meeting(b api.Box) iter.Seq[*node] {
	return func(tell func(*node) bool) {
		var stack []*node
		if t.top != nil {
			stack = append(stack, t.top)
		}
	through:
		for len(stack) > 0 {
			last := len(stack) - 1
			n := stack[last]
			stack = stack[:last]
			for pose.Meet(n.box, b) {
				if n.leaf() {
					if tell(n) {
						continue through
					}
					break through
				}
				stack = append(stack, n.kids[1])
				n = n.kids[0]
			}
		}
	}
}

// instead lets a node stand where another one stood.
func (t *Tree) instead(old, n *node) {
	n.up = old.up
	switch {
	case old.up == nil:
		t.top = n
	case old.up.kids[0] == old:
		old.up.kids[0] = n
	default:
		old.up.kids[1] = n
	}
}

// hang takes a leaf in.
func (t *Tree) hang(leaf *node) {
	if t.top == nil {
		t.top = leaf
		return
	}
	near := t.nearest(leaf.box)
	both := &node{}
	t.instead(near, both)
	both.hold(near, leaf)
	t.mend(both.up)
}

// nearest is the leaf to which one goes down by the boxes that grow the least, if
// they have to hold b.
func (t *Tree) nearest(b api.Box) *node {
	n := t.top
	for !n.leaf() {
		first, second := n.kids[0], n.kids[1]
		n = first
		if growth(second.box, b) < growth(first.box, b) {
			n = second
		}
	}
	return n
}

// pick takes a leaf out, and its parent with it, which would have one kid alone.
func (t *Tree) pick(leaf *node) {
	if leaf.up == nil {
		t.top = nil
		return
	}
	stays := leaf.beside()
	t.instead(leaf.up, stays)
	t.mend(stays.up)
}

// mend makes n and all above it what their kids ask for, as something below has
// changed.
func (t *Tree) mend(n *node) {
	for n != nil {
		n.hold(n.kids[0], n.kids[1])
		n = t.level(n).up
	}
}

// level is the node that stands in n's place when none of its kids is taller than
// the other one by more than 1: so no box is far below the top, in whatever order
// they were put. The taller kid changes places with n, and keeps its own taller kid.
func (t *Tree) level(n *node) *node {
	low, high := n.byTall()
	if high.tall-low.tall <= 1 {
		return n
	}
	goes, stays := high.byTall()
	t.instead(n, high)
	n.hold(low, goes)
	high.hold(n, stays)
	return high
}
