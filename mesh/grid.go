package mesh

import "tumbler/api"

// gridPoints are a field's, row by row, each row by rising X.
func gridPoints(wide, step int, heights []int) []api.Point {
	var points []api.Point
	for i, h := range heights {
		points = append(points, api.Point{X: i % wide * step, Y: h, Z: i / wide * step})
	}
	return points
}

// gridTris are two for each square between four points, both looking up.
func gridTris(wide, deep int) [][3]int {
	var tris [][3]int
	for z := range deep - 1 {
		for x := range wide - 1 {
			at := z*wide + x
			behind := at + wide
			tris = append(tris, [3]int{at, behind, at + 1}, [3]int{at + 1, behind, behind + 1})
		}
	}
	return tris
}
