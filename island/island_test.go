package island_test

import (
	"math"
	"slices"
	"testing"

	"tumbler/island"
)

// ties are the links of these things, two by two.
func ties(things ...int) [][2]int {
	var l [][2]int
	for i := 0; i+1 < len(things); i += 2 {
		l = append(l, [2]int{things[i], things[i+1]})
	}
	return l
}

// walls is a list in which these are walls, no longer than they need.
func walls(things ...int) []bool {
	var l []bool
	for _, i := range things {
		l = append(l, make([]bool, max(i+1-len(l), 0))...)
		l[i] = true
	}
	return l
}

// alone are n things of which each is its own group.
func alone(n int) []int {
	l := make([]int, n)
	for i := range l {
		l[i] = i
	}
	return l
}

func groups(t *testing.T, n int, links [][2]int, walls []bool, want ...int) {
	t.Helper()
	if g := island.Groups(n, links, walls); !slices.Equal(g, want) {
		t.Errorf("Groups(%d, %v, %v): %v, not %v", n, links, walls, g, want)
	}
}

func rest(t *testing.T, groups, quiet []int, need int, want ...bool) {
	t.Helper()
	if r := island.Rest(groups, quiet, need); !slices.Equal(r, want) {
		t.Errorf("Rest(%v, %v, %d): %v, not %v", groups, quiet, need, r, want)
	}
}

func members(t *testing.T, groups []int, of int, want ...int) {
	t.Helper()
	if m := island.Members(groups, of); !slices.Equal(m, want) {
		t.Errorf("Members(%v, %d): %v, not %v", groups, of, m, want)
	}
}

func TestExample(t *testing.T) {
	links := ties(0, 3, 3, 1, 4, 4)
	groups(t, 5, links, nil, 0, 0, 2, 0, 4)
	groups(t, 5, links, walls(3), 0, 1, 2, 3, 4)
	rest(t, []int{0, 0, 2}, []int{9, 1, 5}, 4, false, false, true)
}

func TestI1Together(t *testing.T) {
	groups(t, 1, nil, nil, 0)
	groups(t, 4, nil, nil, 0, 1, 2, 3)
	groups(t, 4, ties(1, 2), nil, 0, 1, 1, 3)
	groups(t, 4, ties(2, 1), nil, 0, 1, 1, 3)
	groups(t, 4, ties(0, 3), nil, 0, 1, 2, 0)
	groups(t, 4, ties(3, 0), nil, 0, 1, 2, 0)
	groups(t, 4, ties(2, 3), nil, 0, 1, 2, 2)
	groups(t, 4, ties(2, 2, 0, 0, 3, 3), nil, 0, 1, 2, 3)
	groups(t, 4, ties(2, 3, 2, 3, 3, 2), nil, 0, 1, 2, 2)
	groups(t, 6, ties(0, 2, 2, 4, 1, 3, 3, 5), nil, 0, 1, 0, 1, 0, 1)
	groups(t, 6, ties(5, 3, 3, 1, 4, 2, 2, 0), nil, 0, 1, 0, 1, 0, 1)
	groups(t, 6, ties(5, 4, 4, 3, 2, 1, 3, 2), nil, 0, 1, 1, 1, 1, 1)
	groups(t, 6, ties(4, 5, 2, 3, 3, 5, 4, 2), nil, 0, 1, 2, 2, 2, 2)
	groups(t, 6, ties(5, 1, 5, 2, 5, 3, 5, 4), nil, 0, 1, 1, 1, 1, 1)
	groups(t, 6, ties(5, 4, 5, 3, 5, 2, 5, 1, 5, 0), nil, 0, 0, 0, 0, 0, 0)
	groups(t, 8, ties(6, 7, 4, 5, 2, 3, 0, 1, 7, 5, 3, 1, 7, 1), nil, 0, 0, 0, 0, 0, 0, 0, 0)
}

// TestI1Walls: a wall joins nothing, whichever end of a link it is, and what it would
// lead to is not led to.
func TestI1Walls(t *testing.T) {
	way := ties(0, 1, 1, 2, 2, 3)
	groups(t, 4, way, nil, 0, 0, 0, 0)
	groups(t, 4, way, []bool{}, 0, 0, 0, 0)
	groups(t, 4, way, make([]bool, 4), 0, 0, 0, 0)
	groups(t, 4, way, walls(0), 0, 1, 1, 1)
	groups(t, 4, way, walls(1), 0, 1, 2, 2)
	groups(t, 4, way, walls(2), 0, 0, 2, 3)
	groups(t, 4, way, walls(3), 0, 0, 0, 3)
	groups(t, 4, way, walls(1, 2), 0, 1, 2, 3)
	groups(t, 4, way, walls(0, 3), 0, 1, 1, 3)
	groups(t, 4, way, walls(0, 1, 2, 3), 0, 1, 2, 3)
	groups(t, 4, ties(3, 2, 2, 1, 1, 0), walls(1), 0, 1, 2, 2)
	groups(t, 4, ties(1, 1), walls(1), 0, 1, 2, 3)
	groups(t, 4, append(way, ties(0, 2)...), walls(1), 0, 1, 0, 0)
	groups(t, 4, way, append(make([]bool, 4), true, true), 0, 0, 0, 0) // of things that there are not
	groups(t, 4, way, append(walls(2, 3), true), 0, 0, 2, 3)
}

func TestI1Nowhere(t *testing.T) {
	for _, i := range []int{-1, -2, 4, 5, 4095, 4096, 1 << 32, 1<<32 + 1, -1 << 32, 1 - 1<<32, math.MaxInt, math.MinInt, math.MinInt + 1} {
		links := ties(i, 0, 0, i, i, 2, 2, i, 3, i, i, 3, i, i, 1, 2)
		groups(t, 4, links, nil, 0, 1, 1, 3)
		groups(t, 4, links, walls(0, 3, 6), 0, 1, 1, 3)
		groups(t, 4, links, walls(2), 0, 1, 2, 3)
		groups(t, 0, links, walls(0))
		groups(t, -1, links, nil)
	}
	groups(t, 1, ties(0, 1, 1, 0, -1, 0, 0, 0), nil, 0)
}

func TestI1Counts(t *testing.T) {
	for _, n := range []int{0, -1, -3, -4096, -1 << 32, math.MinInt, math.MinInt + 1} {
		groups(t, n, ties(0, 0, 0, 1), walls(1))
	}
	for _, n := range []int{1, 2, 4094, 4095, 4096} {
		groups(t, n, nil, nil, alone(n)...)
		want := alone(n)
		want[n-1] = 0
		groups(t, n, ties(n, n-1, 0, n, n-1, 0), nil, want...)
	}
	for _, n := range []int{4096, 4097, 5000, 65536, 1 << 32, 1<<32 + 1, math.MaxInt} {
		want := alone(4096)
		want[4095] = 7
		groups(t, n, ties(7, 4095, 8, 4096, 4096, 9, 4097, 10), nil, want...)
		groups(t, n, ties(7, 4095), walls(4095), alone(4096)...)
		groups(t, n, ties(7, 4095), walls(4096, 4097), want...)
	}
}

func TestI2Rest(t *testing.T) {
	rest(t, nil, nil, 0)
	rest(t, nil, []int{1, 2}, 5)
	rest(t, []int{}, nil, math.MinInt)
	rest(t, []int{0}, []int{4}, 4, true)
	rest(t, []int{0}, []int{4}, 5, false)
	rest(t, []int{0}, []int{4}, 3, true)
	rest(t, []int{0, 1, 2}, []int{3, 4, 5}, 4, false, true, true)
	rest(t, []int{0, 0, 0}, []int{4, 4, 3}, 4, false, false, false)
	rest(t, []int{0, 0, 0}, []int{3, 4, 4}, 4, false, false, false)
	rest(t, []int{0, 0, 0}, []int{4, 3, 4}, 4, false, false, false)
	rest(t, []int{0, 0, 0}, []int{4, 5, 6}, 4, true, true, true)
	rest(t, []int{0, 1, 0, 1, 0}, []int{9, 8, 9, 9, 9}, 9, true, false, true, false, true)
	rest(t, []int{0, 1, 0, 1, 0}, []int{9, 9, 9, 9, 8}, 9, false, true, false, true, false)
}

// TestI2Short: whom the list has not was never quiet, which is enough for a need of 0;
// and whom the groups have not is asked of nobody.
func TestI2Short(t *testing.T) {
	rest(t, []int{0, 1}, nil, 0, true, true)
	rest(t, []int{0, 0}, nil, 1, false, false)
	rest(t, []int{0, 0}, nil, -1, true, true)
	rest(t, []int{0, 0}, nil, math.MinInt, true, true)
	rest(t, []int{0, 0, 2, 7}, []int{9, 1, 5}, 4, false, false, true, false)
	rest(t, []int{0, 0, 2, 7}, []int{9, 4, 5}, 4, true, true, true, false)
	rest(t, []int{0, 1, 1}, []int{5, 5}, 1, true, false, false)
	rest(t, []int{0, 1, 1}, []int{5, 5}, 0, true, true, true)
	rest(t, []int{0, 0}, []int{5, 5, 0, -1}, 5, true, true)
	rest(t, []int{2, 3}, []int{5, 5, 0, 0}, 5, true, true)
}

// TestI2Wild: a group's number may be any, and so may what is quiet and what is needed.
func TestI2Wild(t *testing.T) {
	wild := []int{math.MinInt, -1, 1 << 32, 0, math.MaxInt, -1, math.MinInt, 4096, 1<<32 + 1}
	rest(t, wild, []int{1, 1, 1, 1, 1, 1, 1, 1, 1}, 1, true, true, true, true, true, true, true, true, true)
	rest(t, wild, []int{1, 0, 1, 1, 1, 1, 1, 1, 1}, 1, true, false, true, true, true, false, true, true, true)
	rest(t, wild, []int{1, 1, 0, 1, 1, 1, 0, 1, 1}, 1, false, true, false, true, true, true, false, true, true)
	rest(t, wild, []int{1, 1, 1, 1, 1, 1, 1, 1}, 1, true, true, true, true, true, true, true, true, false)
	rest(t, []int{0, 1, 2}, []int{math.MinInt, 0, math.MaxInt}, 0, false, true, true)
	rest(t, []int{0, 1, 2}, []int{math.MinInt, 0, math.MaxInt}, math.MinInt, true, true, true)
	rest(t, []int{0, 1, 2}, []int{math.MinInt, 0, math.MaxInt}, math.MinInt+1, false, true, true)
	rest(t, []int{0, 1, 2}, []int{math.MinInt, 0, math.MaxInt}, math.MaxInt, false, false, true)
	rest(t, []int{0, 1, 2}, []int{-1, -2, -3}, -2, true, true, false)
	rest(t, []int{0, 0, 2}, []int{-1, -2, -3}, -1, false, false, false)
}

func TestI2Members(t *testing.T) {
	members(t, nil, 0)
	members(t, []int{}, 0)
	members(t, []int{0}, 0, 0)
	members(t, []int{0}, 1)
	members(t, []int{0, 0, 0}, 0, 0, 1, 2)
	members(t, []int{4, 0, 4}, 4, 0, 2)
	members(t, []int{4, 0, 4}, 0, 1)
	members(t, []int{4, 0, 4}, 2)
	members(t, []int{4, 0, 4}, -4)
	members(t, []int{0, 0, 2, 0, 4}, 0, 0, 1, 3)
	members(t, []int{0, 0, 2, 0, 4}, 4, 4)
	members(t, []int{0, 0, 2, 0, 4}, 3)
	wild := []int{math.MinInt, -1, 1 << 32, 0, math.MaxInt, -1, math.MinInt}
	members(t, wild, math.MinInt, 0, 6)
	members(t, wild, -1, 1, 5)
	members(t, wild, 0, 3)
	members(t, wild, math.MaxInt, 4)
	members(t, wild, 1)
}

// TestMany: as many things as there may be, in long rows, by links in all directions,
// and many more links than things.
func TestMany(t *testing.T) {
	const n = 4096
	var up, down, twos, star [][2]int
	for i := range n - 1 {
		up = append(up, [2]int{i, i + 1})
		down = append(down, [2]int{n - 1 - i, n - 2 - i})
		star = append(star, [2]int{n - 1, n - 2 - i})
	}
	for i := range n - 2 {
		twos = append(twos, [2]int{n - 1 - i, n - 3 - i})
	}
	all, odd := make([]int, n), make([]int, n)
	for i := range n {
		odd[i] = i % 2
	}
	for _, l := range [][][2]int{up, down, star, slices.Concat(down, up, star, twos)} {
		groups(t, n, l, nil, all...)
	}
	groups(t, n, twos, nil, odd...)
	var often [][2]int
	for i := range 1 << 20 {
		often = append(often, [2]int{n - 1 - i%7, n - 2 - i%5})
	}
	groups(t, n, append(down, often...), nil, all...)

	quiet := slices.Repeat([]int{3}, n)
	rest(t, all, quiet, 3, slices.Repeat([]bool{true}, n)...)
	rest(t, all, quiet[:n-1], 3, make([]bool, n)...)
	members(t, all, 0, alone(n)...)
}
