package island

// trees hang each thing on a lesser one, or, if it is a root, on itself: so a root is
// the least one of its tree.
type trees []int

// seeds are n things that are roots all.
func seeds(n int) trees {
	t := make(trees, n)
	for i := range t {
		t[i] = i
	}
	return t
}

// root is the least one of i's tree. What is climbed past is hung higher, or a long
// tree would be climbed as a whole by each link again.
func (t trees) root(i int) int {
climb:
	for {
		switch above := t[i]; above {
		case i:
			break climb
		default:
			t[i] = t[above]
			i = t[i]
		}
	}
	return i
}

// join makes the trees of both one.
func (t trees) join(a, b int) {
	a, b = t.root(a), t.root(b)
	t[max(a, b)] = min(a, b)
}

// roots are the root of each thing.
func (t trees) roots() []int {
	for i := range t {
		t[i] = t.root(i)
	}
	return t
}
