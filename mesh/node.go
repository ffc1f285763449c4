package mesh

import (
	"cmp"
	"slices"

	"tumbler/api"
	"tumbler/pose"
)

// node is a box: around one triangle, or around two nodes, of which the first one
// stands right behind it, the second one at that place.
type node struct {
	box    api.Box
	second int // 0: it is around a triangle, as nothing stands ahead of the first node
	tri    int
}

func (n node) leaf() bool { return n.second == 0 }

// leaves are the nodes around one triangle each.
func (m *Mesh) leaves() []node {
	var leaves []node
	for i, t := range m.tris {
		a, b, c := corners(m.points, t)
		leaves = append(leaves, node{box: boxOf(a, b, c), tri: i})
	}
	return leaves
}

// withTree are nodes with a tree of leaves, one or more, behind them. The leaves are
// brought in another order: those that are near one another come into one half, so
// that a box which is met by some of them is met by few other ones.
func withTree(nodes, leaves []node) []node {
	if len(leaves) == 1 {
		return append(nodes, leaves[0])
	}
	arrange(leaves)
	at, half := len(nodes), len(leaves)/2
	nodes = withTree(append(nodes, node{}), leaves[:half])
	second := len(nodes)
	nodes = withTree(nodes, leaves[half:])
	nodes[at] = node{box: pose.Join(nodes[at+1].box, nodes[second].box), second: second}
	return nodes
}

// arrange orders leaves by their middles, in the direction in which they are spread
// the widest.
func arrange(leaves []node) {
	all := leaves[0].box
	for _, n := range leaves {
		all = pose.Join(all, n.box)
	}
	way := widest(all)
	slices.SortStableFunc(leaves, func(m, n node) int {
		return cmp.Compare(twiceMiddle(m.box, way), twiceMiddle(n.box, way))
	})
}

// widest is the direction, 0 to 2, in which a box is.
func widest(b api.Box) int {
	wide := parts(less(b.Max, b.Min))
	return slices.Index(wide[:], slices.Max(wide[:]))
}

func twiceMiddle(b api.Box, way int) int { return parts(b.Min)[way] + parts(b.Max)[way] }

func parts(p api.Point) [3]int { return [3]int{p.X, p.Y, p.Z} }
