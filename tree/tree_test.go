package tree_test

import (
	"math"
	"slices"
	"testing"

	"tumbler/api"
	"tumbler/tree"
)

const (
	far    = 1 << 30
	margin = 64
)

func p(x, y, z int) api.Point { return api.Point{X: x, Y: y, Z: z} }

func box(a, b, c, x, y, z int) api.Box { return api.Box{Min: p(a, b, c), Max: p(x, y, z)} }

// cube is from x on, 10 grains wide.
func cube(x int) api.Box { return box(x, 0, 0, x+10, 10, 10) }

func wide(b api.Box) api.Box {
	return box(b.Min.X-margin, b.Min.Y-margin, b.Min.Z-margin, b.Max.X+margin, b.Max.Y+margin, b.Max.Z+margin)
}

func made(t *testing.T, room int) *tree.Tree {
	t.Helper()
	x, e := tree.New(room)
	if x == nil || e != api.OK {
		t.Fatal(room, x, e)
	}
	return x
}

func puts(t *testing.T, x *tree.Tree, h api.Handle, b api.Box, want api.Errno) {
	t.Helper()
	if e := x.Put(h, b); e != want {
		t.Errorf("Put %d %v: %d, not %d", h, b, e, want)
	}
}

func moves(t *testing.T, x *tree.Tree, h api.Handle, b api.Box, want bool, wantE api.Errno) {
	t.Helper()
	if moved, e := x.Move(h, b); moved != want || e != wantE {
		t.Errorf("Move %d %v: %v %d, not %v %d", h, b, moved, e, want, wantE)
	}
}

func drops(t *testing.T, x *tree.Tree, h api.Handle, want api.Errno) {
	t.Helper()
	if e := x.Drop(h); e != want {
		t.Errorf("Drop %d: %d, not %d", h, e, want)
	}
}

func hasWide(t *testing.T, x *tree.Tree, h api.Handle, want api.Box) {
	t.Helper()
	if b, is := x.Wide(h); !is || b != want {
		t.Errorf("Wide %d: %v %v, not %v", h, b, is, want)
	}
}

func hasNot(t *testing.T, x *tree.Tree, h api.Handle) {
	t.Helper()
	if b, is := x.Wide(h); is || b != (api.Box{}) {
		t.Errorf("Wide %d: %v %v", h, b, is)
	}
}

func finds(t *testing.T, x *tree.Tree, b api.Box, want ...api.Handle) {
	t.Helper()
	if got := x.Find(b); !slices.Equal(got, want) {
		t.Errorf("Find %v: %v, not %v", b, got, want)
	}
}

func pairsAre(t *testing.T, x *tree.Tree, want ...api.Pair) {
	t.Helper()
	if got := x.Pairs(); !slices.Equal(got, want) {
		t.Errorf("Pairs: %v, not %v", got, want)
	}
}

func lenIs(t *testing.T, x *tree.Tree, want int) {
	t.Helper()
	if n := x.Len(); n != want {
		t.Errorf("Len: %d, not %d", n, want)
	}
}

// everything meets each box that may be.
func everything() api.Box {
	return box(math.MinInt, math.MinInt, math.MinInt, math.MaxInt, math.MaxInt, math.MaxInt)
}

// sides are the six numbers of a box, to be changed.
func sides(b *api.Box) []*int {
	return []*int{&b.Min.X, &b.Min.Y, &b.Min.Z, &b.Max.X, &b.Max.Y, &b.Max.Z}
}

// mayNotBe are boxes that are wrong in one place each.
func mayNotBe() []api.Box {
	var l []api.Box
	change := func(side, to int, b api.Box) {
		*sides(&b)[side] = to
		l = append(l, b)
	}
	for side := range 6 {
		for _, n := range []int{far + 1, -far - 1, 1 << 31, -1 << 31, 1 << 62, math.MaxInt, math.MaxInt - 63, math.MinInt, math.MinInt + 1, math.MinInt + 63} {
			change(side, n, box(0, 0, 0, 0, 0, 0))
			change(side, n, box(-far, -far, -far, far, far, far))
		}
	}
	for way := range 3 {
		change(way, 8, box(7, 7, 7, 7, 7, 7))
		change(way+3, 6, box(7, 7, 7, 7, 7, 7))
		change(way, far, box(-far, -far, -far, far-1, far-1, far-1))
		change(way+3, -far, box(1-far, 1-far, 1-far, far, far, far))
	}
	return append(l, box(1, 1, 1, 0, 0, 0), box(far, far, far, -far, -far, -far),
		box(math.MaxInt, math.MaxInt, math.MaxInt, math.MinInt, math.MinInt, math.MinInt), everything())
}

// mayBe are boxes at the edge of what may be.
func mayBe() []api.Box {
	return []api.Box{
		{},
		box(far, far, far, far, far, far),
		box(-far, -far, -far, -far, -far, -far),
		box(-far, -far, -far, far, far, far),
		box(-far, 0, far, -far, 0, far),
		box(-5, 3, -9, -5, 3, -9),
		box(-1, -2, -3, 3, 2, 1),
	}
}

func TestExamples(t *testing.T) {
	x := made(t, 2)
	puts(t, x, 1, box(0, 0, 0, 10, 10, 10), api.OK)
	puts(t, x, 2, box(100, 0, 0, 110, 10, 10), api.OK)
	pairsAre(t, x, api.Pair{A: 1, B: 2})
	moves(t, x, 2, box(200, 0, 0, 210, 10, 10), true, api.OK)
	pairsAre(t, x)
	moves(t, x, 2, box(210, 0, 0, 220, 10, 10), false, api.OK)
	hasWide(t, x, 2, box(136, -64, -64, 274, 74, 74))
}

func TestB1Room(t *testing.T) {
	for _, room := range []int{0, -1, 1025, 1 << 20, 1 << 62, math.MinInt, math.MaxInt} {
		if x, e := tree.New(room); x != nil || e != api.ErrArg {
			t.Error(room, x, e)
		}
	}
	for _, room := range []int{1, 2, 3, 64, 1023, 1024} {
		x := made(t, room)
		lenIs(t, x, 0)
		finds(t, x, everything())
		pairsAre(t, x)
		for i := range room {
			puts(t, x, api.Handle(i+1), cube(1000*i), api.OK)
			lenIs(t, x, i+1)
		}
		puts(t, x, api.Handle(room+1), cube(0), api.ErrTreeFull)
		lenIs(t, x, room)
		drops(t, x, 1, api.OK)
		lenIs(t, x, room-1)
		puts(t, x, api.Handle(room+1), cube(0), api.OK)
		puts(t, x, 1, cube(0), api.ErrTreeFull)
		lenIs(t, x, room)
	}
}

func TestB2Handles(t *testing.T) {
	x := made(t, 4)
	for _, h := range []api.Handle{0, -1, math.MinInt} {
		puts(t, x, h, cube(0), api.ErrArg)
		moves(t, x, h, cube(0), false, api.ErrTreeNone)
		drops(t, x, h, api.ErrTreeNone)
		hasNot(t, x, h)
	}
	lenIs(t, x, 0)
	for i, h := range []api.Handle{1, api.MaxHandle, 1 << 40, math.MaxInt} {
		hasNot(t, x, h)
		moves(t, x, h, cube(0), false, api.ErrTreeNone)
		puts(t, x, h, cube(i), api.OK)
		hasWide(t, x, h, wide(cube(i)))
		puts(t, x, h, cube(500), api.ErrArg)
		hasWide(t, x, h, wide(cube(i)))
		lenIs(t, x, i+1)
	}
	finds(t, x, everything(), 1, api.MaxHandle, 1<<40, math.MaxInt)
}

func TestB2PutBoxes(t *testing.T) {
	for _, b := range mayNotBe() {
		x := made(t, 2)
		puts(t, x, 1, b, api.ErrArg)
		hasNot(t, x, 1)
		lenIs(t, x, 0)
		finds(t, x, everything())
	}
	for _, b := range mayBe() {
		x := made(t, 2)
		puts(t, x, 1, b, api.OK)
		hasWide(t, x, 1, wide(b))
		finds(t, x, b, 1)
	}
}

func TestB2MoveBoxes(t *testing.T) {
	x := made(t, 3)
	puts(t, x, 1, cube(0), api.OK)
	puts(t, x, 2, cube(1000), api.OK)
	for _, b := range mayNotBe() {
		moves(t, x, 1, b, false, api.ErrArg)
		hasWide(t, x, 1, wide(cube(0)))
	}
	lenIs(t, x, 2)
	for _, b := range mayBe() {
		x := made(t, 2)
		puts(t, x, 1, cube(5000), api.OK)
		puts(t, x, 2, cube(8000), api.OK)
		moves(t, x, 1, b, true, api.OK)
		hasWide(t, x, 1, wide(b))
		hasWide(t, x, 2, wide(cube(8000)))
		finds(t, x, api.Box{Min: b.Min, Max: b.Min}, 1)
		moves(t, x, 1, b, false, api.OK)
		lenIs(t, x, 2)
	}
}

// TestB2MoveInside: a box that is wrong is refused where it would lie within the wide
// box, too.
func TestB2MoveInside(t *testing.T) {
	x := made(t, 1)
	puts(t, x, 1, box(far-100, 0, 0, far, 100, 100), api.OK)
	hasWide(t, x, 1, box(far-164, -64, -64, far+64, 164, 164))
	moves(t, x, 1, box(far-100, 0, 0, far+1, 100, 100), false, api.ErrArg)
	moves(t, x, 1, box(far-100, 0, 51, far, 100, 50), false, api.ErrArg)
	moves(t, x, 1, box(far-164, -64, -64, far, 164, 164), false, api.OK)
}

// TestB2First: where several errors apply, the one that is named first is told.
func TestB2First(t *testing.T) {
	x := made(t, 1)
	puts(t, x, 7, cube(0), api.OK)
	puts(t, x, 0, cube(0), api.ErrArg)
	puts(t, x, 7, cube(0), api.ErrArg)
	puts(t, x, 7, box(1, 0, 0, 0, 0, 0), api.ErrArg)
	puts(t, x, 8, box(1, 0, 0, 0, 0, 0), api.ErrArg)
	puts(t, x, 8, cube(0), api.ErrTreeFull)
	moves(t, x, 8, box(1, 0, 0, 0, 0, 0), false, api.ErrTreeNone)
	moves(t, x, 7, box(1, 0, 0, 0, 0, 0), false, api.ErrArg)
	lenIs(t, x, 1)
	hasWide(t, x, 7, wide(cube(0)))
}

// TestB2Within: each side for itself may go as far as the wide box does, and no
// grain further.
func TestB2Within(t *testing.T) {
	b := box(-30, 20, 1000, 40, 90, 2000)
	for side := range 6 {
		out := 1
		if side < 3 {
			out = -1
		}
		for _, by := range []int{-5, 0, 1, 63, 64} {
			x := made(t, 1)
			puts(t, x, 3, b, api.OK)
			to := b
			*sides(&to)[side] += out * by
			moves(t, x, 3, to, false, api.OK)
			hasWide(t, x, 3, wide(b))
		}
		x := made(t, 1)
		puts(t, x, 3, b, api.OK)
		to := b
		*sides(&to)[side] += out * 65
		moves(t, x, 3, to, true, api.OK)
		hasWide(t, x, 3, wide(to))
		moves(t, x, 3, b, false, api.OK)
		hasWide(t, x, 3, wide(to))
	}
}

// TestB2Shrunk: a box that becomes less stays within, however little is left of it.
func TestB2Shrunk(t *testing.T) {
	x := made(t, 1)
	puts(t, x, 1, box(-far, -far, -far, far, far, far), api.OK)
	moves(t, x, 1, box(far, -far, 0, far, -far, 0), false, api.OK)
	hasWide(t, x, 1, wide(box(-far, -far, -far, far, far, far)))
}

func TestB2Dropped(t *testing.T) {
	x := made(t, 3)
	drops(t, x, 1, api.ErrTreeNone)
	for i, h := range []api.Handle{4, 9, 6} {
		puts(t, x, h, cube(10*i), api.OK)
	}
	for i, h := range []api.Handle{9, 4, 6} {
		drops(t, x, h, api.OK)
		drops(t, x, h, api.ErrTreeNone)
		moves(t, x, h, cube(0), false, api.ErrTreeNone)
		hasNot(t, x, h)
		lenIs(t, x, 2-i)
		if slices.Contains(x.Find(everything()), h) {
			t.Error(h, "is found")
		}
	}
	finds(t, x, everything())
	pairsAre(t, x)
	puts(t, x, 9, cube(777), api.OK)
	hasWide(t, x, 9, wide(cube(777)))
	finds(t, x, cube(777), 9)
}

// TestB3Edges: what touches a wide box from any side is found, what is a grain
// further is not.
func TestB3Edges(t *testing.T) {
	for many := range 5 {
		x := made(t, 8)
		puts(t, x, 3, box(0, 0, 0, 10, 20, 30), api.OK)
		for i := range many {
			puts(t, x, api.Handle(100+i), box(far-i, far, far, far, far, far), api.OK)
		}
		w := wide(box(0, 0, 0, 10, 20, 30))
		for way := range 3 {
			b := w
			*sides(&b)[way] = *sides(&w)[way+3]
			*sides(&b)[way+3] = *sides(&w)[way+3] + 5
			finds(t, x, b, 3)
			*sides(&b)[way]++
			finds(t, x, b)
			*sides(&b)[way+3] = *sides(&w)[way]
			*sides(&b)[way] = *sides(&w)[way] - 5
			finds(t, x, b, 3)
			*sides(&b)[way+3]--
			finds(t, x, b)
		}
	}
}

// TestB3AnyBox: a box that may not be is held against the others by chapter 6's
// words, as any is.
func TestB3AnyBox(t *testing.T) {
	x := made(t, 3)
	puts(t, x, 2, cube(0), api.OK)
	puts(t, x, 1, cube(500), api.OK)
	puts(t, x, 3, cube(-500), api.OK)
	finds(t, x, everything(), 1, 2, 3)
	finds(t, x, box(5, 5, 5, 4, 4, 4), 2)
	finds(t, x, box(60, 0, 0, -60, 0, 0), 2)
	finds(t, x, box(75, 0, 0, -60, 0, 0))
	finds(t, x, box(60, 0, 0, -65, 0, 0))
	finds(t, x, box(math.MaxInt, 0, 0, math.MinInt, 0, 0))
	finds(t, x, box(math.MinInt, 0, 0, -65, 0, 0), 3)
	finds(t, x, box(75, 0, 0, math.MaxInt, 0, 0), 1)
	finds(t, x, box(0, math.MinInt, math.MinInt, 0, math.MaxInt, math.MaxInt), 2)
	finds(t, x, box(math.MaxInt, math.MaxInt, math.MaxInt, math.MaxInt, math.MaxInt, math.MaxInt))
	finds(t, x, box(math.MinInt, math.MinInt, math.MinInt, math.MinInt, math.MinInt, math.MinInt))
}

// TestB3Pairs: wide boxes that only touch are a pair; each pair is told once, by A,
// then by B, as numbers.
func TestB3Pairs(t *testing.T) {
	x := made(t, 6)
	puts(t, x, 10, cube(0), api.OK)
	pairsAre(t, x)
	puts(t, x, 2, cube(138), api.OK)
	pairsAre(t, x, api.Pair{A: 2, B: 10})
	moves(t, x, 2, cube(203), true, api.OK)
	moves(t, x, 2, cube(139), false, api.OK)
	pairsAre(t, x)
	puts(t, x, 100, cube(100), api.OK)
	pairsAre(t, x, api.Pair{A: 2, B: 100}, api.Pair{A: 10, B: 100})
	puts(t, x, 3, cube(100), api.OK)
	puts(t, x, 1, box(0, 5000, 0, 300, 5000, 0), api.OK)
	pairsAre(t, x, api.Pair{A: 2, B: 3}, api.Pair{A: 2, B: 100}, api.Pair{A: 3, B: 10}, api.Pair{A: 3, B: 100}, api.Pair{A: 10, B: 100})
	drops(t, x, 3, api.OK)
	pairsAre(t, x, api.Pair{A: 2, B: 100}, api.Pair{A: 10, B: 100})
}

// TestB3All: as many as a tree has room for, all of them in one place, and all of
// them apart.
func TestB3All(t *testing.T) {
	const many = 1024
	one, row := made(t, many), made(t, many)
	var want []api.Pair
	for i := range many {
		h := api.Handle(1 + i*37%many)
		puts(t, one, h, box(-far, -far, -far, far, far, far), api.OK)
		puts(t, row, h, cube(139*int(h)), api.OK)
		for j := range many - i - 1 {
			want = append(want, api.Pair{A: api.Handle(i + 1), B: api.Handle(i + j + 2)})
		}
	}
	pairsAre(t, row)
	if !slices.Equal(one.Pairs(), want) {
		t.Error("not all pairs, or not in order")
	}
	finds(t, row, box(139*700, 0, 0, 139*702+9, 0, 0), 700, 701, 702)
}
