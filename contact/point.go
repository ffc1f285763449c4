package contact

import "tumbler/api"

func plus(p, q api.Point) api.Point { return api.Point{X: p.X + q.X, Y: p.Y + q.Y, Z: p.Z + q.Z} }

func less(p, q api.Point) api.Point { return api.Point{X: p.X - q.X, Y: p.Y - q.Y, Z: p.Z - q.Z} }

func dot(p, q api.Point) int { return p.X*q.X + p.Y*q.Y + p.Z*q.Z }

// spread is how far the points are from one another, summed up over the three parts;
// there is one of them at least.
func spread(points []api.Point) int {
	least, greatest := points[0], points[0]
	for _, p := range points[1:] {
		least = api.Point{X: min(least.X, p.X), Y: min(least.Y, p.Y), Z: min(least.Z, p.Z)}
		greatest = api.Point{X: max(greatest.X, p.X), Y: max(greatest.Y, p.Y), Z: max(greatest.Z, p.Z)}
	}
	wide := less(greatest, least)
	return wide.X + wide.Y + wide.Z
}

// floor is n by what is above 0, down.
func floor(n, by int) int {
	if n < 0 {
		return -((by - 1 - n) / by)
	}
	return n / by
}
