package pairs

import "tumbler/api"

// mayBe is whether p has two handles, the lesser one first.
func mayBe(p api.Pair) bool { return p.A < p.B }

// ahead is whether p stands ahead of q: by A, then by B.
func ahead(p, q api.Pair) bool {
	if p.A != q.A {
		return p.A < q.A
	}
	return p.B < q.B
}

// find is how many pairs stand ahead of p, which is where p is or would be; and
// whether it is there.
func (s *Set) find(p api.Pair) (int, bool) {
	low, high := 0, len(s.pairs)
	for low < high {
		middle := (low + high) / 2
		if ahead(s.pairs[middle], p) {
			low = middle + 1
		} else {
			high = middle
		}
	}
	return low, low < len(s.pairs) && s.pairs[low] == p
}
