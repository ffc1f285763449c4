package contact

import (
	"slices"

	"tumbler/api"
)

// deepEnough are the spots that are no more than so many grains from touching. (A
// depth is small; what is handed in has no other way round, if it is the least int.)
func deepEnough(spots []api.Spot, within int) []api.Spot {
	var l []api.Spot
	for _, s := range spots {
		if -s.Depth <= within {
			l = append(l, s)
		}
	}
	return l
}

// few are at most four of the spots: the deepest one, and what is far from those that
// were chosen, so that what lies on them does not tip over.
func few(spots []api.Spot) []api.Spot {
	if len(spots) <= api.MaxSpots {
		return spots
	}
	chosen := []int{deepest(spots)}
	for len(chosen) < api.MaxSpots {
		chosen = append(chosen, furthest(spots, chosen))
	}
	slices.Sort(chosen)
	var l []api.Spot
	for _, i := range chosen {
		l = append(l, spots[i])
	}
	return l
}

func deepest(spots []api.Spot) int {
	best := 0
	for i, s := range spots {
		if s.Depth > spots[best].Depth {
			best = i
		}
	}
	return best
}

// furthest is the one of those that are not chosen which is the furthest from those
// that are.
func furthest(spots []api.Spot, chosen []int) int {
	best, most := 0, -1
	for i, s := range spots {
		if far := distance(s.At, spots, chosen); far > most && !slices.Contains(chosen, i) {
			best, most = i, far
		}
	}
	return best
}

// distance is the sum of the squares of those to the chosen ones.
func distance(at api.Point, spots []api.Spot, chosen []int) int {
	sum := 0
	for _, i := range chosen {
		way := less(at, spots[i].At)
		sum += dot(way, way)
	}
	return sum
}
