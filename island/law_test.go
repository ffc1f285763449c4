package island_test

import (
	"math"
	"slices"
	"testing"

	"tumbler/island"
)

// dice tells numbers below n, the same ones each time.
type dice uint64

func (d *dice) below(n int) int {
	*d = *d*6364136223846793005 + 1442695040888963407
	return int(uint64(*d)>>33) % n
}

// thing is mostly one of n; at times one that there is not.
func (d *dice) thing(n int) int {
	if d.below(10) == 0 {
		return []int{math.MinInt, -1, n, n + 1, 4096, 1 << 32, math.MaxInt}[d.below(7)]
	}
	return d.below(n)
}

// links are some of n things, at most twice as many as there are things.
func (d *dice) links(n int) [][2]int {
	var l [][2]int
	for range d.below(2*n + 1) {
		l = append(l, [2]int{d.thing(n), d.thing(n)})
	}
	return l
}

// walls are few, in a list that may be shorter or longer than n.
func (d *dice) walls(n int) []bool {
	var l []bool
	for range d.below(n + 3) {
		l = append(l, d.below(6) == 0)
	}
	return l
}

// book is the rules over again: what may be reached from each thing, step by step.
func book(n int, links [][2]int, walls []bool) []int {
	wall := func(i int) bool { return i < len(walls) && walls[i] }
	next := make([][]int, n)
	for _, l := range links {
		a, b := l[0], l[1]
		if a >= 0 && b >= 0 && a < n && b < n && !wall(a) && !wall(b) {
			next[a], next[b] = append(next[a], b), append(next[b], a)
		}
	}
	out := make([]int, n)
	for i := range out {
		reached := map[int]bool{i: true}
		for todo := []int{i}; len(todo) > 0; todo = todo[1:] {
			for _, j := range next[todo[0]] {
				if !reached[j] {
					reached[j] = true
					todo = append(todo, j)
				}
			}
		}
		out[i] = i
		for j := range reached {
			out[i] = min(out[i], j)
		}
	}
	return out
}

// restBook asks all places of each one.
func restBook(groups, quiet []int, need int) []bool {
	out := make([]bool, len(groups))
	for i, g := range groups {
		out[i] = true
		for j, h := range groups {
			long := 0
			if j < len(quiet) {
				long = quiet[j]
			}
			out[i] = out[i] && (h != g || long >= need)
		}
	}
	return out
}

// TestI1All holds all links and all walls of five things against the book.
func TestI1All(t *testing.T) {
	var all [][2]int
	for a := range 5 {
		for b := range a {
			all = append(all, [2]int{a, b})
		}
	}
	for which := range 1 << len(all) {
		var links [][2]int
		for i, l := range all {
			if which>>i&1 == 1 {
				links = append(links, l)
			}
		}
		for stand := range 1 << 5 {
			wall := make([]bool, 5)
			for i := range wall {
				wall[i] = stand>>i&1 == 1
			}
			groups(t, 5, links, wall, book(5, links, wall)...)
		}
		if t.Failed() {
			t.FailNow()
		}
	}
}

func TestI1ByBook(t *testing.T) {
	d := dice(1)
	for range 4000 {
		n := 1 + d.below(40)
		links, wall := d.links(n), d.walls(n)
		groups(t, n, links, wall, book(n, links, wall)...)
		if t.Failed() {
			t.FailNow()
		}
	}
}

func TestI2ByBook(t *testing.T) {
	d := dice(2)
	for range 4000 {
		n := d.below(20)
		var g, quiet []int
		for range n {
			g = append(g, []int{d.below(8), d.thing(8)}[d.below(2)])
		}
		for range d.below(n + 4) {
			quiet = append(quiet, d.below(12)-2)
		}
		need := d.below(6) - 2
		rest(t, g, quiet, need, restBook(g, quiet, need)...)
		of := d.thing(8)
		var want []int
		for i := range g {
			if g[i] == of {
				want = append(want, i)
			}
		}
		members(t, g, of, want...)
		if t.Failed() {
			t.FailNow()
		}
	}
}

// TestI3Order: neither order nor direction of links, nor how often they are told, nor
// links that join nothing, bear on the groups.
func TestI3Order(t *testing.T) {
	d := dice(3)
	for range 3000 {
		n := 1 + d.below(40)
		links, wall := d.links(n), d.walls(n)
		want := island.Groups(n, links, wall)
		other := slices.Clone(links)
		for _, l := range links {
			other = append(other, slices.Repeat([][2]int{l}, d.below(3))...)
			other = append(other, [2]int{d.below(n), n + d.below(3)}, [2]int{-1 - d.below(3), d.below(n)})
		}
		for i := range other {
			j := i + d.below(len(other)-i)
			other[i], other[j] = other[j], other[i]
			if d.below(2) == 0 {
				other[i][0], other[i][1] = other[i][1], other[i][0]
			}
		}
		groups(t, n, other, wall, want...)
		if t.Failed() {
			t.FailNow()
		}
	}
}

// TestI3More: a link more makes two groups one, if it joins things of two groups, and
// else changes nothing.
func TestI3More(t *testing.T) {
	d := dice(4)
	for range 3000 {
		n := 1 + d.below(40)
		links, wall := d.links(n), d.walls(n)
		want := island.Groups(n, links, wall)
		a, b := d.below(n), d.below(n)
		if a >= len(wall) || !wall[a] {
			if b >= len(wall) || !wall[b] {
				low, high := min(want[a], want[b]), max(want[a], want[b])
				for i, g := range want {
					if g == high {
						want[i] = low
					}
				}
			}
		}
		groups(t, n, append(links, [2]int{a, b}), wall, want...)
		if t.Failed() {
			t.FailNow()
		}
	}
}

// TestI3Groups: a group's number is its least member's, a wall is alone, and all
// members of all groups are all things, each once.
func TestI3Groups(t *testing.T) {
	d := dice(5)
	for range 3000 {
		n := 1 + d.below(40)
		links, wall := d.links(n), d.walls(n)
		g := island.Groups(n, links, wall)
		var all []int
		for of := -1; of <= n; of++ {
			m := island.Members(g, of)
			if len(m) > 0 && m[0] != of || !slices.IsSorted(m) {
				t.Fatalf("%d has %v of %v", of, m, g)
			}
			if of >= 0 && of < min(n, len(wall)) && wall[of] && !slices.Equal(m, []int{of}) {
				t.Fatalf("the wall %d has %v of %v", of, m, g)
			}
			all = append(all, m...)
		}
		slices.Sort(all)
		if !slices.Equal(all, alone(n)) {
			t.Fatalf("%v of %v", all, g)
		}
	}
}

// TestI3Rest: whoever rests is quiet, and so are all of his group; of whoever does not
// rest somebody of the group is not.
func TestI3Rest(t *testing.T) {
	d := dice(6)
	resting, restless := 0, 0
	for range 3000 {
		n := 1 + d.below(40)
		g := island.Groups(n, d.links(n), d.walls(n))
		quiet := make([]int, n)
		for i := range quiet {
			quiet[i] = 31 + d.below(20)
		}
		for i, is := range island.Rest(g, quiet, 32) {
			least := math.MaxInt
			for _, j := range island.Members(g, g[i]) {
				least = min(least, quiet[j])
			}
			if is != (least >= 32) {
				t.Fatalf("%d of %v with %v: %v", i, g, quiet, is)
			}
			if is {
				resting++
			} else {
				restless++
			}
		}
	}
	if resting < 2000 || restless < 2000 {
		t.Error("too few:", resting, restless)
	}
}

// TestUnchanged: what is handed in is not written into, nor is what is behind its
// length, and it is not kept.
func TestUnchanged(t *testing.T) {
	for seed := range 500 {
		d, again := dice(seed), dice(seed)
		links, wall := d.links(20), d.walls(20)
		wasLinks, wasWall := again.links(20), again.walls(20)
		more, some := len(links)/2, len(wall)/2
		g := island.Groups(20, links[:more], wall[:some])
		quiet := []int{3, 1, 4, 1, 5, 9, 2, 6, 5, 3, 5, 8}
		wasG, wasQuiet := slices.Clone(g), slices.Clone(quiet)
		r := island.Rest(g[:10], quiet[:7], 1)
		m := island.Members(g[:10], 0)
		if !slices.Equal(links, wasLinks) || !slices.Equal(wall, wasWall) || !slices.Equal(g, wasG) || !slices.Equal(quiet, wasQuiet) {
			t.Fatalf("%v %v %v %v", links, wall, g, quiet)
		}
		clear(links)
		clear(wall)
		clear(quiet)
		if !slices.Equal(g, wasG) {
			t.Fatalf("%v, then %v", wasG, g)
		}
		clear(g)
		groups(t, 20, wasLinks[:more], wasWall[:some], wasG...)
		rest(t, wasG[:10], wasQuiet[:7], 1, r...)
		members(t, wasG[:10], 0, m...)
		if t.Failed() {
			t.FailNow()
		}
	}
}

// spoiled writes into a list and into its spare room.
func spoiled[T any](l []T, with T) {
	l = l[:cap(l)]
	for i := range l {
		l[i] = with
	}
}

// TestNewMemory: each list is its owner's alone.
func TestNewMemory(t *testing.T) {
	links, quiet := ties(0, 3, 3, 1, 4, 4), []int{9, 9, 5, 9, 1}
	a, b := island.Groups(5, links, nil), island.Groups(5, links, nil)
	ra, rb := island.Rest(b, quiet, 4), island.Rest(b, quiet, 4)
	ma, mb := island.Members(b, 0), island.Members(b, 0)
	spoiled(a, 77)
	spoiled(ra, false)
	spoiled(ma, 77)
	if !slices.Equal(b, []int{0, 0, 2, 0, 4}) || !slices.Equal(rb, []bool{true, true, true, true, false}) || !slices.Equal(mb, []int{0, 1, 3}) {
		t.Error(b, rb, mb)
	}
	groups(t, 5, links, nil, b...)
	rest(t, b, quiet, 4, rb...)
	members(t, b, 0, mb...)
	spoiled(rb, true)
	spoiled(mb, 77)
	if !slices.Equal(b, []int{0, 0, 2, 0, 4}) {
		t.Error(b)
	}
}
