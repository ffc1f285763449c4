package mesh

import (
	"testing"

	"tumbler/api"
	"tumbler/pose"
)

// row are triangles one beside another along a way, in a mixed order.
func row(many, way int) ([]api.Point, [][3]int) {
	var points []api.Point
	var tris [][3]int
	for i := range many {
		for j := range 3 {
			at := [3]int{j, j * j, 0}
			at[way] += 100 * (i * 17 % many)
			points = append(points, api.Point{X: at[0], Y: at[1], Z: at[2]})
		}
		tris = append(tris, [3]int{3 * i, 3*i + 1, 3*i + 2})
	}
	return points, tris
}

// TestNodes: each box is around its two halves, and each triangle is a leaf once;
// halves of what stands in a row are apart, so that a search goes into one alone.
func TestNodes(t *testing.T) {
	for way := range 3 {
		for _, many := range []int{1, 2, 3, 7, 32, 42} {
			m, e := New(row(many, way))
			if e != api.OK || len(m.nodes) != 2*many-1 {
				t.Fatal(way, many, e, len(m.nodes))
			}
			leaves := make([]int, many)
			for i, n := range m.nodes {
				if n.leaf() {
					leaves[n.tri]++
					continue
				}
				first, second := m.nodes[i+1].box, m.nodes[n.second].box
				if n.box != pose.Join(first, second) || pose.Meet(first, second) {
					t.Error(way, many, n, first, second)
				}
			}
			for i, n := range leaves {
				if n != 1 {
					t.Error(way, many, i, n)
				}
			}
		}
	}
}
