package world

import (
	"slices"

	"tumbler/api"
	"tumbler/mesh"
	"tumbler/pose"
)

// ground is a mesh, and what it was made of, to be told. Nothing of it changes.
type ground struct {
	*mesh.Mesh
	points []api.Point
	tris   [][3]int
}

func groundOf(points []api.Point, tris [][3]int) (*ground, api.Errno) {
	m, e := mesh.New(points, tris)
	if e != api.OK {
		return nil, e
	}
	return &ground{m, slices.Clone(points), slices.Clone(tris)}, api.OK
}

// near are the triangles that a box with all that is up to the reach around it may
// touch, as cores, rising; none has no ground.
func (g *ground) near(b api.Box) []api.Core {
	if g == nil {
		return nil
	}
	var out []api.Core
	for _, n := range g.Find(pose.Grown(b, reach)) {
		c, _ := g.Tri(n) // what was found is there
		out = append(out, c)
	}
	return out
}
