package mesh_test

import (
	"math"
	"math/big"
	"reflect"
	"slices"
	"testing"

	"tumbler/api"
	"tumbler/mesh"
	"tumbler/shape"
)

// dice tells numbers below n, the same ones each time.
type dice uint64

func (d *dice) below(n int) int {
	*d = *d*6364136223846793005 + 1442695040888963407
	mixed := (uint64(*d) ^ uint64(*d)>>29) * 0xbf58476d1ce4e5b9
	return int(mixed>>1) % n
}

// part is a number of a size of at most n.
func (d *dice) part(n int) int { return d.below(2*n+1) - n }

func (d *dice) point(n int) api.Point { return p(d.part(n), d.part(n), d.part(n)) }

// points are some, in a room that is narrow at times, so that some lie on one line.
func (d *dice) points() []api.Point {
	size := []int{2, 5, 100, far}[d.below(4)]
	var l []api.Point
	for range 3 + d.below(30) {
		l = append(l, d.point(size))
	}
	return l
}

// tris are some, mostly with sides of their own; at times something is wrong with
// one.
func (d *dice) tris(many int) [][3]int {
	var tris [][3]int
	had := map[[2]int]int{}
	for range 1 + d.below(60) {
		x := [3]int{d.below(many), d.below(many), d.below(many)}
		free := x[0] != x[1] && x[1] != x[2] && x[2] != x[0]
		for i := range 3 {
			free = free && had[[2]int{x[i], x[(i+1)%3]}] == 0
		}
		if !free && d.below(300) > 0 {
			continue
		}
		for i := range 3 {
			had[[2]int{x[i], x[(i+1)%3]}]++
		}
		tris = append(tris, x)
	}
	if d.below(10) == 0 && len(tris) > 0 {
		tris[d.below(len(tris))][d.below(3)] = []int{-1, many, many + 1, 0, math.MinInt, math.MaxInt}[d.below(6)]
	}
	return tris
}

// box is any, its Min above its Max too.
func (d *dice) box(size int) api.Box {
	a := d.point(size)
	if d.below(2) == 0 {
		return api.Box{Min: a, Max: d.point(size)}
	}
	by := d.point(1 + size/8)
	return api.Box{Min: a, Max: p(a.X+by.X, a.Y+by.Y, a.Z+by.Z)}
}

// book is a mesh's rules over again, with exact numbers, without sides or boxes that
// are kept.
type book struct {
	points []api.Point
	tris   [][3]int
}

func exact(n int) *big.Int { return big.NewInt(int64(n)) }

func parts(q api.Point) [3]int { return [3]int{q.X, q.Y, q.Z} }

// way is from one point to another one.
func way(from, to api.Point) api.Point { return p(to.X-from.X, to.Y-from.Y, to.Z-from.Z) }

func dot(q, r api.Point) *big.Int {
	n := new(big.Int)
	for i := range 3 {
		n.Add(n, new(big.Int).Mul(exact(parts(q)[i]), exact(parts(r)[i])))
	}
	return n
}

// onLine tells without the product across: two directions lie on one line where
// their squares' product is their dot product's square.
func onLine(a, b, c api.Point) bool {
	q, r := way(a, b), way(a, c)
	return new(big.Int).Mul(dot(q, q), dot(r, r)).Cmp(new(big.Int).Mul(dot(q, r), dot(q, r))) == 0
}

func (b book) corners(n int) (q, r, s api.Point) {
	return b.points[b.tris[n][0]], b.points[b.tris[n][1]], b.points[b.tris[n][2]]
}

func (b book) mayBe() bool {
	if len(b.points) < 3 || len(b.points) > 128 || len(b.tris) < 1 || len(b.tris) > 128 {
		return false
	}
	for _, q := range b.points {
		for _, n := range parts(q) {
			if exact(n).CmpAbs(exact(far)) > 0 {
				return false
			}
		}
	}
	for i, x := range b.tris {
		for j := range 3 {
			if x[j] < 0 || x[j] >= len(b.points) || x[j] == x[(j+1)%3] {
				return false
			}
		}
		if onLine(b.corners(i)) {
			return false
		}
		for j := range i {
			if b.side(j, x[0], x[1]) || b.side(j, x[1], x[2]) || b.side(j, x[2], x[0]) {
				return false
			}
		}
	}
	return true
}

// side is whether the n-th triangle has a side from there to there.
func (b book) side(n, from, to int) bool {
	for i := range 3 {
		if b.tris[n][i] == from && b.tris[n][(i+1)%3] == to {
			return true
		}
	}
	return false
}

func (b book) next(n, side int) int {
	for m := range b.tris {
		if b.side(m, b.tris[n][(side+1)%3], b.tris[n][side]) {
			return m
		}
	}
	return -1
}

func (b book) core(n int) api.Core {
	q, r, s := b.corners(n)
	u, v := parts(way(q, r)), parts(way(q, s))
	var across [3]int
	for i := range 3 {
		j, k := (i+1)%3, (i+2)%3
		one, two := new(big.Int).Mul(exact(u[j]), exact(v[k])), new(big.Int).Mul(exact(u[k]), exact(v[j]))
		across[i] = int(one.Sub(one, two).Int64())
	}
	return api.Core{
		Points: []api.Point{q, r, s},
		Axes:   []api.Point{shape.Short(p(across[0], across[1], across[2]))},
		Edges:  []api.Point{shape.Short(way(q, r)), shape.Short(way(r, s)), shape.Short(way(s, q))},
	}
}

// ends are the least and the greatest of the i-th parts of a triangle's points.
func (b book) ends(n, i int) (least, most int) {
	q, r, s := b.corners(n)
	l := []int{parts(q)[i], parts(r)[i], parts(s)[i]}
	return slices.Min(l), slices.Max(l)
}

func (b book) find(q api.Box) []int {
	var out []int
	for n := range b.tris {
		meet := true
		for i := range 3 {
			least, most := b.ends(n, i)
			meet = meet && least <= parts(q.Max)[i] && parts(q.Min)[i] <= most
		}
		if meet {
			out = append(out, n)
		}
	}
	return out
}

func (b book) span() api.Box {
	var low, high [3]int
	for i := range 3 {
		low[i], high[i] = math.MaxInt, math.MinInt
		for n := range b.tris {
			least, most := b.ends(n, i)
			low[i], high[i] = min(low[i], least), max(high[i], most)
		}
	}
	return box(low[0], low[1], low[2], high[0], high[1], high[2])
}

// holds is whether m is as the book says.
func (b book) holds(t *testing.T, m *mesh.Mesh) {
	t.Helper()
	if m.Len() != len(b.tris) || m.Span() != b.span() {
		t.Fatal(b, m.Len(), m.Span())
	}
	for n := range b.tris {
		if got, is := m.Tri(n); !is || !alike(got, b.core(n)) {
			t.Fatal(b, n, got, b.core(n))
		}
		for side := range 3 {
			if got := m.Next(n, side); got != b.next(n, side) {
				t.Fatal(b, n, side, got)
			}
		}
	}
}

func TestM1Exactly(t *testing.T) {
	d := dice(1)
	taken := 0
	const all = 4000
	for range all {
		points := d.points()
		b := book{points, d.tris(len(points))}
		if d.below(30) == 0 {
			q := &b.points[d.below(len(b.points))]
			*[]*int{&q.X, &q.Y, &q.Z}[d.below(3)] = []int{far, -far, far + 1, -far - 1}[d.below(4)]
		}
		if b.mayBe() {
			b.holds(t, made(t, b.points, b.tris))
			taken++
		} else {
			refused(t, b.points, b.tris)
		}
	}
	if taken < all/5 || taken > all*4/5 {
		t.Error("too few of one kind:", taken, "of", all, "are taken")
	}
}

// mesh is one that may be, with its book; a field at times.
func (d *dice) mesh(t *testing.T) (book, *mesh.Mesh) {
	for d.below(3) > 0 {
		points := d.points()
		if b := (book{points, d.tris(len(points))}); b.mayBe() {
			return b, made(t, b.points, b.tris)
		}
	}
	return d.field(t)
}

func (d *dice) field(t *testing.T) (book, *mesh.Mesh) {
	wide, deep, step := 2+d.below(8), 2+d.below(8), 1+d.below(1<<d.below(17))
	size := []int{3, 1000, far}[d.below(3)]
	var heights []int
	for range wide * deep {
		heights = append(heights, d.part(size))
	}
	var b book
	for i, h := range heights {
		b.points = append(b.points, p(i%wide*step, h, i/wide*step))
	}
	for i := range wide * (deep - 1) {
		if i%wide < wide-1 {
			b.tris = append(b.tris, [3]int{i, i + wide, i + 1}, [3]int{i + 1, i + wide, i + wide + 1})
		}
	}
	return b, field(t, wide, deep, step, heights)
}

func TestM2Exactly(t *testing.T) {
	d := dice(2)
	for range 300 {
		b, m := d.field(t)
		b.holds(t, m)
	}
}

// TestM5Found: whatever meets a box is found, nothing else.
func TestM5Found(t *testing.T) {
	d := dice(3)
	some, none := 0, 0
	for range 1500 {
		b, m := d.mesh(t)
		for range 30 {
			q := d.box([]int{3, 6, 120, 5000, far}[d.below(5)])
			want := b.find(q)
			finds(t, m, q, want...)
			if len(want) == 0 {
				none++
			} else if len(want) < m.Len() {
				some++
			}
		}
		for n := range b.tris { // each one by each of its corners
			for _, at := range b.tris[n] {
				q := api.Box{Min: b.points[at], Max: b.points[at]}
				got := m.Find(q)
				if !slices.Contains(got, n) {
					t.Error(b, n, at)
				}
				finds(t, m, q, b.find(q)...)
			}
		}
		if t.Failed() {
			t.FailNow()
		}
	}
	if some < 5000 || none < 5000 {
		t.Error("too few of one kind:", some, none)
	}
}

// TestM5BothWays: of a side whose Next is m, one of m's sides has this one as its
// Next; no other triangle comes to m by that side.
func TestM5BothWays(t *testing.T) {
	d := dice(4)
	inner := 0
	for range 2000 {
		_, m := d.mesh(t)
		for n := range m.Len() {
			for side := range 3 {
				next := m.Next(n, side)
				if next == -1 {
					continue
				}
				inner++
				if next < 0 || next >= m.Len() || next == n {
					t.Fatal(n, side, next)
				}
				here, _ := m.Tri(n)
				there, _ := m.Tri(next)
				is := false
				for back := range 3 {
					is = is || m.Next(next, back) == n &&
						there.Points[back] == here.Points[(side+1)%3] && there.Points[(back+1)%3] == here.Points[side]
				}
				if !is {
					t.Fatal(n, side, next)
				}
			}
		}
	}
	if inner < 10000 {
		t.Error("too few sides with a neighbour:", inner)
	}
}

// TestM5LooksUp: of a field no triangle looks down, however steep it is.
func TestM5LooksUp(t *testing.T) {
	d := dice(5)
	up, steep := 0, 0
	for range 3000 {
		_, m := d.field(t)
		for n := range m.Len() {
			c, _ := m.Tri(n)
			if len(c.Axes) != 1 || c.Axes[0].Y < 0 || c.Axes[0] == (api.Point{}) {
				t.Fatal(c)
			}
			if c.Axes[0].Y > 0 {
				up++
			} else {
				steep++
			}
		}
	}
	if up < 1000 || steep < 100 {
		t.Error("too few of one kind:", up, steep)
	}
}

// told is all that a mesh tells.
type told struct {
	many  int
	span  api.Box
	cores []api.Core
	next  [][3]int
	found [][]int
}

func tell(m *mesh.Mesh) told {
	out := told{many: m.Len(), span: m.Span(), found: [][]int{m.Find(m.Span()), m.Find(api.Box{})}}
	for n := range m.Len() {
		c, _ := m.Tri(n)
		out.cores = append(out.cores, c)
		out.next = append(out.next, [3]int{m.Next(n, 0), m.Next(n, 1), m.Next(n, 2)})
		out.found = append(out.found, m.Find(api.Box{Min: c.Points[0], Max: c.Points[1]}))
	}
	return out
}

// TestHandedIn: nothing is written into what is handed in, nor behind it, nor is it
// kept.
func TestHandedIn(t *testing.T) {
	l, tris := strip(144)
	m := made(t, l[:80], tris[:100])
	wasL, wasTris := strip(144)
	refused(t, l[:50], tris[:100])
	refused(t, l[:80], tris)
	tell(m)
	if !slices.Equal(l, wasL) || !slices.Equal(tris, wasTris) {
		t.Error("New has written into what it was given")
	}
	want := tell(made(t, wasL[:80], wasTris[:100]))
	clear(l)
	clear(tris)
	if !reflect.DeepEqual(tell(m), want) {
		t.Error("New has kept what it was given")
	}

	heights := []int{3, 1, 4, 1, 5, 9, 2, 6, 5, 3}
	f := field(t, 3, 2, 10, heights[:6])
	fieldRefused(t, 3, 2, 10, heights)
	before := tell(f)
	if !slices.Equal(heights, []int{3, 1, 4, 1, 5, 9, 2, 6, 5, 3}) {
		t.Error("Field has written into what it was given:", heights)
	}
	clear(heights)
	if !reflect.DeepEqual(tell(f), before) || !reflect.DeepEqual(before, tell(field(t, 3, 2, 10, []int{3, 1, 4, 1, 5, 9}))) {
		t.Error("Field has kept what it was given")
	}
}

// overwritten is a list with all its spare room written over, and more behind it.
func overwritten[T any](l []T, x T) []T {
	l = l[:cap(l)]
	for i := range l {
		l[i] = x
	}
	return append(l, x)
}

// TestNewMemory: whoever writes into an answer, or grows it, changes no other list,
// nor the mesh.
func TestNewMemory(t *testing.T) {
	m := made(t, first(strip(128)), second(strip(128)))
	want := tell(m)
	for i := range 3 {
		got, _ := m.Tri(5)
		other, _ := m.Tri(5)
		lists := []*[]api.Point{&got.Points, &got.Axes, &got.Edges}
		*lists[i] = overwritten(*lists[i], p(-7, -7, -7))
		for j, l := range [][]api.Point{want.cores[5].Points, want.cores[5].Axes, want.cores[5].Edges} {
			if j != i && !slices.Equal(*lists[j], l) {
				t.Error("list", j, "changed with", i)
			}
		}
		if !alike(other, want.cores[5]) {
			t.Error(other)
		}
	}
	for _, b := range []api.Box{m.Span(), {}, box(3, 0, 3, 5, 0, 5)} {
		got, other := m.Find(b), m.Find(b)
		before := slices.Clone(other)
		overwritten(got, -7)
		if !slices.Equal(other, before) || !slices.Equal(m.Find(b), before) {
			t.Error(b, other)
		}
	}
	if !reflect.DeepEqual(tell(m), want) {
		t.Error("the mesh has changed")
	}
}

// TestApart: meshes know nothing of one another, and are not changed by any call.
func TestApart(t *testing.T) {
	d := dice(6)
	for range 100 {
		_, m := d.mesh(t)
		want := tell(m)
		_, other := d.mesh(t)
		for range 20 {
			m.Find(d.box(far))
			other.Find(d.box(10))
			m.Tri(d.part(200))
			m.Next(d.part(200), d.part(5))
		}
		refused(t, nil, nil)
		if !reflect.DeepEqual(tell(m), want) {
			t.Fatal("the mesh has changed")
		}
	}
}
