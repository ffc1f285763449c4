package world_test

import (
	"math"
	"slices"
	"testing"

	"tumbler/api"
	"tumbler/mesh"
	"tumbler/world"
)

func TestX7Ints(t *testing.T) {
	x := lived(t, &book{pull: v(1, -2, 3), steps: 9, points: []api.Point{{X: 1}, {Y: 2}, {Z: 3}}, tris: [][3]int{{2, 0, 1}}})
	hull := api.Body{
		Kind: api.Moving, Pose: api.Pose{At: v(10, 11, 12), Turn: api.Quat{W: 0, X: one, Y: 1, Z: 2}}, P: v(13, 14, 15), L: v(16, 17, 18),
		Mass: api.Mass{Mass: one + 1, Inertia: v(one+2, one+3, one+4)}, Shape: api.Shape{Kind: api.Hull, Radius: 19, Half: api.Point{X: 20, Y: 21, Z: 22}, Points: []api.Point{{X: 23}, {Y: 24}, {Z: 25}, {}}},
		Group: 26, Mask: 27, Friction: 28, Quiet: 29,
	}
	sleeps := with(dot(0), func(b *api.Body) { b.Fast, b.Asleep, b.Quiet = true, true, 33 })
	x.b.bodies[2] = slot[api.Body]{1, &hull}
	x.b.bodies[5] = slot[api.Body]{0, &sleeps}
	x.b.joints[4] = slot[api.Joint]{2, &api.Joint{Kind: api.Hinge, A: 65539, B: 6, AtA: v(1, 2, 3), AtB: v(4, 5, 6), AxisA: v(0, one, 0), AxisB: v(0, 0, -one), Long: 7, Motor: -8, Force: 9}}
	x.b.touch = []api.Pair{{A: 6, B: 65539}}
	x = lived(t, x.b)
	i := sleeps.Mass.Inertia.X
	want := []int{
		1, -2, 3, 9, 13, 14, 15, 3, 1, 0, 0, 0, 2, 0, 0, 0, 3, 1, 2, 0, 1, 2,
		65539, 2, 10, 11, 12, 0, one, 1, 2, 13, 14, 15, 16, 17, 18, one + 1, one + 2, one + 3, one + 4, 4, 19, 20, 21, 22, 4, 23, 0, 0, 0, 24, 0, 0, 0, 25, 0, 0, 0, 26, 27, 28, 0, 0, 0, 29,
		6, 2, 0, 0, 0, one, 0, 0, 0, 0, 0, 0, 0, 0, 0, one, i, i, i, 1, 400, 0, 0, 0, 0, 1, 1, one / 2, 1, 1, 0, 33,
		1, 131077, 3, 65539, 6, 1, 2, 3, 4, 5, 6, 0, one, 0, 0, 0, -one, 7, -8, 9, 1, 6, 65539,
	}
	if got := x.w.Ints(); !slices.Equal(got, want) {
		t.Errorf("%v, not\n%v", got, want)
	}
	x = laid(t, out(dot(0)))
	if l := x.w.Ints(); !slices.Equal(l[len(l)-7:], []int{one / 2, 0, 0, 1, 7, 0, 0}) {
		t.Error(l)
	}
}

// read is the book that l tells; nil, if l is not what a book of such a world tells.
func read(l []int) *book {
	at, bad := 0, len(l) > 4000
	next := func() int {
		if at++; at > len(l) {
			bad = true
			return 0
		}
		return l[at-1]
	}
	many := func() int {
		if n := next(); n >= 0 && n <= 4000 {
			return n
		}
		bad = true
		return 0
	}
	three := func() api.Vec { return v(next(), next(), next()) }
	b := &book{pull: three(), steps: next()}
	three() // the book: it is told by the sum
	for range many() {
		b.points = append(b.points, api.Point(three()))
	}
	for range many() {
		b.tris = append(b.tris, [3]int{next(), next(), next()})
	}
	for range many() {
		h := next()
		x := api.Body{Kind: next(), Pose: api.Pose{At: three(), Turn: api.Quat{W: next(), X: next(), Y: next(), Z: next()}}, P: three(), L: three()}
		x.Mass = api.Mass{Mass: next(), Inertia: three()}
		x.Shape = api.Shape{Kind: next(), Radius: next(), Half: api.Point(three())}
		for range many() {
			x.Shape.Points = append(x.Shape.Points, api.Point(three()))
		}
		x.Group, x.Mask, x.Friction, x.Fast, x.Asleep, x.Out, x.Quiet = next(), next(), next(), next() == 1, next() == 1, next() == 1, next()
		bad = bad || !laidAt(b.bodies[:], h, x) || !mayBe(x)
	}
	for range many() {
		h := next()
		j := api.Joint{Kind: next(), A: api.Handle(next()), B: api.Handle(next()), AtA: three(), AtB: three(), AxisA: three(), AxisB: three(), Long: next(), Motor: next(), Force: next()}
		bad = bad || !laidAt(b.joints[:], h, j) || b.holds(j) != api.OK
	}
	for range many() {
		p := api.Pair{A: api.Handle(next()), B: api.Handle(next())}
		if n := len(b.touch); n > 0 && (b.touch[n-1].A > p.A || b.touch[n-1].A == p.A && b.touch[n-1].B >= p.B) {
			bad = true
		}
		bad = bad || p.A >= p.B || b.body(p.A) == nil || b.body(p.B) == nil
		b.touch = append(b.touch, p)
	}
	for _, n := range ofVec(b.pull) {
		bad = bad || n > 1<<37 || n < -1<<37
	}
	if _, e := mesh.New(b.points, b.tris); e != api.OK && len(b.points)+len(b.tris) > 0 {
		bad = true
	}
	if bad || b.steps < 0 || b.steps > 1<<40 || !slices.Equal(b.ints(), l) {
		return nil
	}
	return b
}

func laidAt[T any](l []slot[T], h int, x T) bool {
	place, age := (h-1)%65536, (h-1)/65536
	if h < 1 || place >= len(l) || age > 1<<30 || l[place].thing != nil {
		return false
	}
	l[place] = slot[T]{age, &x}
	return true
}

func mayBe(x api.Body) bool {
	still := x.P == api.Vec{} && x.L == api.Vec{}
	switch {
	case takes(x) != api.OK, x.Quiet < 0, x.Quiet > 1<<30:
		return false
	case x.Kind == api.Fixed:
		return still && !x.Asleep && !x.Out
	}
	return still || !x.Asleep && !x.Out
}

// of holds Of against the book.
func of(t *testing.T, l []int, want bool) {
	t.Helper()
	before := slices.Clone(l)
	w, e := world.Of(l)
	if (e == api.OK) != want || want != (read(l) != nil) {
		t.Fatalf("Of %v: %d, not %v (%v)", l, e, want, read(l) != nil)
	}
	switch {
	case e == api.OK && (!slices.Equal(w.Ints(), l) || w.Steps() != l[3] || w.Book() != v(l[4], l[5], l[6])):
		t.Fatalf("Of %v: %v", l, w.Ints())
	case e != api.OK && (e != api.ErrSnapForm || w != nil):
		t.Fatalf("Of %v: %v %d", l, w, e)
	case !slices.Equal(l, before):
		t.Fatalf("Of wrote into %v: %v", before, l)
	}
	if e != api.OK {
		return
	}
	if x, is := w.Take(); is || x != (api.Event{}) {
		t.Fatal("there is an event:", x)
	}
}

// small is a book of each of what there is.
func small() *book {
	b := &book{pull: v(0, -one, 0), steps: 5}
	b.points, b.tris = plain(-9000)
	for i, x := range []api.Body{moving(dot(0), v(1, 2, 3)), speck(), asleep(dot(9000)), out(dot(18000)), with(dot(27000), func(b *api.Body) { b.L, b.Fast = v(4, 5, 6), true })} {
		b.bodies[2*i] = slot[api.Body]{i % 2, &x}
	}
	for i, j := range []api.Joint{rope(1, 65539), rope(65543, 5)} {
		b.joints[3*i] = slot[api.Joint]{1 - i, &j}
	}
	b.touch = []api.Pair{{A: 1, B: 5}, {A: 1, B: 65539}, {A: 5, B: 65543}, {A: 9, B: 65543}}
	return b
}

func TestX8Numbers(t *testing.T) {
	l := small().ints()
	of(t, l, true)
	of(t, append(slices.Clone(l), 0), false)
	of(t, nil, false)
	of(t, []int{}, false)
	for i := range l {
		of(t, l[:i], false)
		of(t, l[i+1:], false)
	}
	of(t, make([]int, 12), true)
	of(t, make([]int, 11), false)
	of(t, make([]int, 13), false)
	of(t, make([]int, 15), false)
	for _, i := range []int{7, 8} { // one point and no triangle, and the other way round
		m := make([]int, 15)
		m[i] = 1
		of(t, m, false)
	}
	for _, n := range []int{1, -1, 2, 4000, math.MaxInt, math.MinInt} { // no counts
		for i := 7; i < 12; i++ {
			of(t, slices.Concat(make([]int, i), []int{n}, make([]int, 11-i)), false)
			of(t, slices.Concat(make([]int, i), []int{n}, make([]int, 3000)), false)
		}
	}
}

// TestX8Long: of 4000 numbers there may be a world, of more there may not.
func TestX8Long(t *testing.T) {
	for n, want := range map[int]bool{3996: true, 3997: true, 3998: true, 3999: true, 4000: true, 4001: false, 4002: false, 4003: false, 4006: false} {
		b := small()
		ball := b.body(1)
		for len(b.touch) > 0 && (n-len(b.ints()))%3 != 0 {
			b.touch = b.touch[1:]
		}
		ball.Shape.Points = make([]api.Point, (n-len(b.ints()))/3)
		if len(b.ints()) != n {
			t.Fatal(n, len(b.ints()))
		}
		of(t, b.ints(), want)
	}
}

// TestX8Each says of each thing what may be.
func TestX8Each(t *testing.T) {
	hull := api.Shape{Kind: api.Hull, Points: []api.Point{{X: 9}, {Y: 9}, {Z: 9}, {}}}
	for i, c := range []struct {
		want bool
		do   func(b *book)
	}{
		{true, func(b *book) { b.pull = v(1<<37, -1<<37, 1<<37) }},
		{false, func(b *book) { b.pull.X = 1<<37 + 1 }},
		{false, func(b *book) { b.pull.Y = -1<<37 - 1 }},
		{false, func(b *book) { b.pull.Z = math.MinInt }},
		{true, func(b *book) { b.steps = 0 }},
		{true, func(b *book) { b.steps = 1 << 40 }},
		{false, func(b *book) { b.steps = 1<<40 + 1 }},
		{false, func(b *book) { b.steps = -1 }},
		{true, func(b *book) { b.points, b.tris = nil, nil }},
		{false, func(b *book) { b.points = nil }},
		{false, func(b *book) { b.tris = nil }},
		{false, func(b *book) { b.tris[1] = b.tris[0] }},
		{false, func(b *book) { b.tris[0][1] = 4 }},
		{false, func(b *book) { b.points[2].X = 1<<20 + 1 }},
		{true, func(b *book) { b.bodies[23] = slot[api.Body]{1 << 30, b.body(9)} }},
		{false, func(b *book) { b.bodies[23] = slot[api.Body]{1<<30 + 1, b.body(9)} }},
		{true, func(b *book) { b.body(1).P = v(64*one, 0, 0) }},
		{false, func(b *book) { b.body(1).P = v(64*one+1, 0, 0) }},
		{false, func(b *book) { b.body(1).L = v(one, 0, 0) }}, // it would turn too fast
		{false, func(b *book) { b.body(1).Kind = 0 }},
		{false, func(b *book) { b.body(1).Pose.At.Y = 1<<42 + 1 }},
		{false, func(b *book) { b.body(65543).Pose.At.Y = -1<<42 - 1 }},
		{true, func(b *book) { b.body(65543).Pose.At.Y = -1 << 42 }},
		{false, func(b *book) { b.body(5).Pose.Turn.W = one + 9 }},
		{false, func(b *book) { b.body(5).Mass.Mass = 0 }},
		{true, func(b *book) { b.body(5).Shape = hull }},
		{false, func(b *book) { b.body(5).Shape = hull; b.body(5).Shape.Points = hull.Points[:3] }},
		{false, func(b *book) { b.body(9).Shape = hull }}, // it is Fast
		{false, func(b *book) { b.body(65539).Fast = true }},
		{true, func(b *book) { b.body(5).Fast = true }},
		{true, func(b *book) { b.body(1).Quiet = 1 << 30 }},
		{false, func(b *book) { b.body(1).Quiet = 1<<30 + 1 }},
		{false, func(b *book) { b.body(65543).Quiet = -1 }},
		{true, func(b *book) { b.body(65539).Quiet = 1 << 30 }},
		{false, func(b *book) { b.body(65539).Quiet = math.MinInt }},
		{false, func(b *book) { b.body(65539).Asleep = true }},
		{false, func(b *book) { b.body(65539).Out = true }},
		{false, func(b *book) { b.body(65539).P.X = 1 }},
		{false, func(b *book) { b.body(65539).L.Z = -1 }},
		{false, func(b *book) { b.body(5).P.Y = 1 }},
		{false, func(b *book) { b.body(5).L.X = 1 }},
		{false, func(b *book) { b.body(65543).P.Z = -1 }},
		{false, func(b *book) { b.body(65543).L.Y = 1 }},
		{true, func(b *book) { b.body(5).Quiet, b.body(65543).Quiet = 0, 0 }},
		{true, func(b *book) { b.joints[15] = slot[api.Joint]{1 << 30, b.joints[0].thing} }},
		{false, func(b *book) { b.joints[15] = slot[api.Joint]{1<<30 + 1, b.joints[0].thing} }},
		{false, func(b *book) { b.joints[0].thing.A = 2 }},
		{false, func(b *book) { b.joints[3].thing.B = 3 }},
		{false, func(b *book) { b.joints[3].thing.B = b.joints[3].thing.A }},
		{false, func(b *book) { b.joints[3].thing.Kind = 5 }},
		{true, func(b *book) { b.joints[3].thing.Kind = api.Weld }},
		{true, func(b *book) { b.touch = nil }},
		{false, func(b *book) { b.touch = []api.Pair{{A: 5, B: 1}} }},
		{false, func(b *book) { b.touch = []api.Pair{{A: 5, B: 5}} }},
		{false, func(b *book) { b.touch = []api.Pair{{A: 0, B: 5}} }},
		{false, func(b *book) { b.touch = []api.Pair{{A: 1, B: 3}} }},
		{false, func(b *book) { b.touch = []api.Pair{{A: 3, B: 5}} }},
		{false, func(b *book) { b.touch = []api.Pair{{A: 1, B: 5}, {A: 1, B: 5}} }},
		{false, func(b *book) { b.touch = []api.Pair{{A: 1, B: 9}, {A: 1, B: 5}} }},
		{false, func(b *book) { b.touch = []api.Pair{{A: 5, B: 9}, {A: 1, B: 65539}} }},
		{true, func(b *book) { b.touch = []api.Pair{{A: 1, B: 65539}, {A: 5, B: 9}} }},
	} {
		b := small()
		c.do(b)
		of(t, b.ints(), c.want)
		if t.Failed() {
			t.Fatal(i)
		}
	}
}

// TestX8Raw changes numbers of a small world that no book would tell so.
func TestX8Raw(t *testing.T) {
	l := small().ints()
	bodies := 8 + 12 + 1 + 6 // where their count stands
	const each = 32          // how many numbers a ball has
	joints := bodies + 1 + 5*each
	pairs := joints + 1 + 2*19
	if l[bodies] != 5 || l[joints] != 2 || l[pairs] != 4 {
		t.Fatal(l[bodies], l[joints], l[pairs])
	}
	set := func(want bool, do func(l []int)) {
		t.Helper()
		m := slices.Clone(l)
		do(m)
		of(t, m, want)
	}
	for i := 4; i < 7; i++ {
		for _, by := range []int{1, -1, 1 << 40, math.MinInt} {
			set(false, func(l []int) { l[i] += by })
		}
	}
	for _, i := range []int{7, 20, bodies, joints, pairs, bodies + each - 7} {
		for _, n := range []int{-1, l[i] - 1, l[i] + 1, 4000, math.MaxInt, math.MinInt} {
			set(false, func(l []int) { l[i] = n })
		}
	}
	first, second := bodies+1, bodies+1+each
	for flag := range 3 {
		for _, n := range []int{2, -1, 256, math.MinInt} {
			set(false, func(l []int) { l[first+each-4+flag] = n })
			set(false, func(l []int) { l[second+each-4+flag] = n })
		}
	}
	for _, h := range []int{0, -1, 65536, 25, 26, 65536 + 25, math.MinInt, math.MaxInt, 65536*(1<<30+1) + 24} {
		set(false, func(l []int) { l[first+4*each] = h })
	}
	// The last body, of which no joint tells, and one pair, which is left out.
	short := slices.Delete(slices.Clone(l), pairs+7, pairs+9)
	short[pairs] = 3
	of(t, short, true)
	for h, want := range map[int]bool{8: true, 10: true, 24: true, 65536 + 24: true, 65536*(1<<30) + 24: true, 7: false, 65543: false, 65536*5 + 7: false, 6: false, 1: false, 0: false, 25: false, -65535 + 8: false, 65536*(1<<30+1) + 24: false, math.MinInt: false, math.MinInt + 1: false, math.MaxInt: false} {
		m := slices.Clone(short)
		m[first+4*each] = h
		of(t, m, want)
	}
	for h, want := range map[int]bool{4: true, 2 + 65536: true, 16: true, 3: true, 2: true, 16 + 65536*(1<<30): true, 17: false, 1: false, 65537: false, 65536: false, 0: false, -1: false, 16 + 65536*(1<<30+1): false, math.MinInt: false, math.MaxInt: false} {
		set(want, func(l []int) { l[joints+1+19] = h })
	}
	set(false, func(l []int) { l[joints+1], l[joints+1+19] = 4, 1 })
}

// TestX8Changed changes numbers of worlds by chance.
func TestX8Changed(t *testing.T) {
	d, taken := dice(21), 0
	for range 30 {
		b := d.state(t, 2*one)
		if d.below(2) == 0 {
			b.points, b.tris = d.field(0)
		}
		l := b.ints()
		of(t, l, true)
		for range 60 {
			m := slices.Clone(l)
			for range 1 + d.below(2) {
				i := d.below(len(m))
				switch d.below(5) {
				case 0:
					m[i] = d.below(3)
				case 1:
					m[i]++
				case 2:
					m[i] -= 1 << d.below(63)
				case 3:
					m[i] = m[d.below(len(m))]
				case 4:
					m = slices.Delete(m, i, i+1)
				}
			}
			is := read(m) != nil
			of(t, m, is)
			if is {
				taken++
			}
		}
	}
	if taken < 100 || taken > 1500 {
		t.Error("taken:", taken)
	}
}

// TestX8Ages: places that have nothing have the age 0.
func TestX8Ages(t *testing.T) {
	x := grown(t, dot(0), dot(9000))
	x.joins(rope(1, 2), 1, api.OK)
	x.unjoin(1, api.OK)
	x.remove(1, api.OK)
	u, e := world.Of(x.w.Ints())
	if e != api.OK {
		t.Fatal(e)
	}
	if h, e := u.Add(dot(0)); h != 1 || e != api.OK {
		t.Error(h, e)
	}
	if h, e := u.Join(rope(1, 2)); h != 1 || e != api.OK {
		t.Error(h, e)
	}
	x.adds(dot(0), 65537, api.OK)
	x.joins(rope(65537, 2), 65537, api.OK)
}
