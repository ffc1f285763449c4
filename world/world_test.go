package world_test

import (
	"math"
	"slices"
	"testing"

	"tumbler/api"
	"tumbler/shape"
	"tumbler/world"
)

const (
	one   = api.One
	grain = api.Grain
)

func v(x, y, z int) api.Vec { return api.Vec{X: x, Y: y, Z: z} }

// pt is a place in grains, in FX.
func pt(x, y, z int) api.Vec { return api.Vec{X: x * grain, Y: y * grain, Z: z * grain} }

// ball is a moving one of the mass One, at a place in grains.
func ball(x, y, z, r int) api.Body {
	s := api.Shape{Kind: api.Ball, Radius: r}
	m, _ := shape.Mass(s, one)
	return api.Body{Kind: api.Moving, Pose: api.Pose{At: pt(x, y, z), Turn: api.Quat{W: one}}, Mass: m, Shape: s, Group: 1, Mask: 1, Friction: one / 2}
}

// block is a fixed brick, at a place in grains.
func block(x, y, z int, half api.Point) api.Body {
	return api.Body{Kind: api.Fixed, Pose: api.Pose{At: pt(x, y, z), Turn: api.Quat{W: one}}, Shape: api.Shape{Kind: api.Brick, Half: half}, Group: 1, Mask: 1, Friction: one / 2}
}

func with(b api.Body, do func(b *api.Body)) api.Body {
	do(&b)
	return b
}

func asleep(b api.Body) api.Body { return with(b, func(b *api.Body) { b.Asleep, b.Quiet = true, 40 }) }

func out(b api.Body) api.Body { return with(b, func(b *api.Body) { b.Out, b.Quiet = true, 7 }) }

// grown is a world with these bodies added, without a pull.
func grown(t *testing.T, l ...api.Body) *both {
	t.Helper()
	x := begun(t, api.Vec{}, &counts{})
	for i, b := range l {
		if h, e := x.w.Add(b); h != handleOf(i, 0) || e != api.OK {
			t.Fatal(i, h, e)
		}
		x.b.add(b)
	}
	x.same("Add")
	return x
}

// laid is a world of the numbers of a book of these bodies, whatever became of them.
func laid(t *testing.T, l ...api.Body) *both {
	t.Helper()
	b := &book{}
	for i := range l {
		b.bodies[i].thing = &l[i]
	}
	return lived(t, b)
}

func lived(t *testing.T, b *book) *both {
	t.Helper()
	w, e := world.Of(b.ints())
	if e != api.OK {
		t.Fatal(e, b.ints())
	}
	x := &both{t, w, b, &counts{}}
	x.same("Of")
	return x
}

// touched lays pairs that touched into a world of numbers.
func (x *both) touched(l ...api.Handle) *both {
	x.t.Helper()
	for i := 0; i+1 < len(l); i += 2 {
		x.b.touch = append(x.b.touch, api.Pair{A: l[i], B: l[i+1]})
	}
	return lived(x.t, x.b)
}

func (x *both) get(h api.Handle) api.Body {
	x.t.Helper()
	b, is := x.w.Get(h)
	if !is {
		x.t.Fatal("no body", h)
	}
	return b
}

func (x *both) remove(h api.Handle, want api.Errno) {
	x.t.Helper()
	x.told("Remove", x.w.Remove(h), x.b.remove(h), want)
}

func (x *both) push(h api.Handle, at, impulse api.Vec, want api.Errno) {
	x.t.Helper()
	x.told("Push", x.w.Push(h, at, impulse), x.b.push(h, at, impulse), want)
}

func (x *both) unjoin(h api.Handle, want api.Errno) {
	x.t.Helper()
	x.told("Unjoin", x.w.Unjoin(h), x.b.unjoin(h), want)
}

// told holds an error against the book's and against what it must be.
func (x *both) told(what string, got, book, want api.Errno) {
	x.t.Helper()
	x.errno(what, got, book)
	if got != want {
		x.t.Fatalf("%s: %d, not %d", what, got, want)
	}
}

func (x *both) adds(b api.Body, want api.Handle, wantE api.Errno) {
	x.t.Helper()
	h, e := x.w.Add(b)
	h2, e2 := x.b.add(b)
	x.handle("Add", h, e, h2, e2)
	if h != want || e != wantE {
		x.t.Fatalf("Add %+v: %d %d, not %d %d", b, h, e, want, wantE)
	}
}

func (x *both) joins(j api.Joint, want api.Handle, wantE api.Errno) {
	x.t.Helper()
	h, e := x.w.Join(j)
	h2, e2 := x.b.join(j)
	x.handle("Join", h, e, h2, e2)
	if h != want || e != wantE {
		x.t.Fatalf("Join %+v: %d %d, not %d %d", j, h, e, want, wantE)
	}
}

// stepped is a step that must answer so.
func (x *both) stepped(want api.Errno) {
	x.t.Helper()
	var b api.Errno
	before := x.w.Ints()
	got := x.w.Step()
	x.b, b = x.b.step(x.n)
	x.told("Step", got, b, want)
	if want != api.OK && !slices.Equal(before, x.w.Ints()) {
		x.t.Fatalf("a step that was refused changed\n%v to\n%v", before, x.w.Ints())
	}
}

// events takes all events, which must be these.
func (x *both) events(want ...api.Event) {
	x.t.Helper()
	var l []api.Event
	for e, is := x.w.Take(); is; e, is = x.w.Take() {
		l = append(l, e)
	}
	if !slices.Equal(l, want) || !slices.Equal(l, x.b.queue) {
		x.t.Fatalf("events: %v, not %v (%v)", l, want, x.b.queue)
	}
	x.b.queue = nil
	if e, is := x.w.Take(); is || e != (api.Event{}) {
		x.t.Fatal("Take of an empty queue:", e)
	}
}

func (x *both) touching(l ...api.Handle) {
	x.t.Helper()
	var want []api.Pair
	for i := 0; i+1 < len(l); i += 2 {
		want = append(want, api.Pair{A: l[i], B: l[i+1]})
	}
	if !slices.Equal(x.w.Touching(), want) {
		x.t.Fatalf("Touching: %v, not %v", x.w.Touching(), want)
	}
}

// sleep tells who is Asleep, by rising places.
func (x *both) sleep(want ...bool) {
	x.t.Helper()
	var got []bool
	for _, h := range x.w.Bodies() {
		got = append(got, x.get(h).Asleep)
	}
	if !slices.Equal(got, want) {
		x.t.Fatalf("Asleep: %v, not %v", got, want)
	}
}

func rope(a, b api.Handle) api.Joint {
	return api.Joint{Kind: api.Rope, A: a, B: b, Long: 1 << 42}
}

// plain is a ground of two triangles, so high, in grains.
func plain(y int) ([]api.Point, [][3]int) {
	return []api.Point{{X: -90000, Y: y, Z: -90000}, {X: -90000, Y: y, Z: 90000}, {X: 90000, Y: y, Z: -90000}, {X: 90000, Y: y, Z: 90000}}, [][3]int{{0, 1, 2}, {2, 1, 3}}
}

// wild are handles that nothing has in a world of few bodies.
func wild() []api.Handle {
	return []api.Handle{0, -1, -65535, 24, 25, 65535, 65536, 65537, 131073, 65536 * 5, 1 << 46, 1<<46 + 1, math.MaxInt, math.MinInt, math.MinInt + 1}
}

func TestX1New(t *testing.T) {
	for _, end := range []int{1<<37 + 1, -1<<37 - 1, 1 << 38, 1 << 62, math.MaxInt, math.MinInt} {
		for _, pull := range []api.Vec{v(end, 0, 0), v(0, end, 0), v(0, 0, end)} {
			if w, e := world.New(pull); w != nil || e != api.ErrArg {
				t.Error(pull, w, e)
			}
		}
	}
	for _, pull := range []api.Vec{{}, v(1<<37, -1<<37, 1<<37), v(-1<<37, 1<<37, -1<<37), v(0, -10*one, 0)} {
		x := begun(t, pull, &counts{})
		x.same("New")
		want := []int{pull.X, pull.Y, pull.Z, 0, 0, 0, 0, 0, 0, 0, 0, 0}
		if !slices.Equal(x.w.Ints(), want) {
			t.Error(x.w.Ints())
		}
		x.events()
		for _, h := range wild() {
			x.remove(h, api.ErrPoolNone)
			x.unjoin(h, api.ErrPoolNone)
			x.push(h, api.Vec{}, api.Vec{}, api.ErrPoolNone)
		}
		if h, part, is := x.w.Ray(api.Point{}, api.Point{X: 1}); h != 0 || part != 16 || is {
			t.Error(h, part, is)
		}
		if l := x.w.Over(ball(0, 0, 0, 9).Shape, ball(0, 0, 0, 9).Pose); len(l) != 0 {
			t.Error(l)
		}
		x.stepped(api.OK)
		x.events()
		x.touching()
	}
}

func TestX1Land(t *testing.T) {
	quiet := with(ball(0, 9000, 0, 400), func(b *api.Body) { b.Quiet = 5 })
	x := laid(t, asleep(ball(0, 0, 0, 400)), out(ball(9000, 0, 0, 400)), block(0, -9000, 0, api.Point{X: 1, Y: 1, Z: 1}), quiet)
	for _, e := range []struct {
		points []api.Point
		tris   [][3]int
	}{
		{}, {[]api.Point{{}, {X: 1}, {X: 2}}, [][3]int{{0, 1, 2}}}, {[]api.Point{{}, {X: 1}, {Y: 2}}, nil}, {[]api.Point{{}, {X: 1}, {Y: 2}}, [][3]int{{0, 1, 3}}},
		{[]api.Point{{}, {X: 1}, {Y: 1<<20 + 1}}, [][3]int{{0, 1, 2}}}, {nil, [][3]int{{0, 1, 2}}}, {[]api.Point{{X: math.MinInt}, {X: 1}, {Y: 2}}, [][3]int{{0, 1, 2}}},
	} {
		x.told("Land", x.w.Land(e.points, e.tris), x.b.land(e.points, e.tris), api.ErrMeshForm)
		x.sleep(true, false, false, false)
	}
	for _, y := range []int{-8000, -7000} { // the second one in place of the first one
		points, tris := plain(y)
		x.land(points, tris)
		x.sleep(false, false, false, false)
		for h, want := range map[api.Handle]int{1: 0, 2: 7, 3: 0, 4: 0} {
			if got := x.get(h).Quiet; got != want {
				t.Errorf("%d is quiet for %d, not %d", h, got, want)
			}
		}
		if l := x.w.Ints(); l[7] != 4 || l[9] != y || l[20] != 2 {
			t.Error(l)
		}
		points[0].Y, tris[0][0] = 77, 3
		x.b.points, x.b.tris = plain(y)
		x.same("what was handed in is not kept")
		x.told("Land", x.w.Land(nil, nil), x.b.land(nil, nil), api.ErrMeshForm)
	}
}

func TestX2AddErrors(t *testing.T) {
	x := grown(t)
	heavy := func(b *api.Body) { b.Mass.Mass = 1<<40 + 1 }
	brick := api.Shape{Kind: api.Brick, Half: api.Point{X: 9, Y: 9, Z: 9}}
	flat := api.Shape{Kind: api.Hull, Points: []api.Point{{}, {X: 1}, {Y: 1}, {X: 1, Y: 1}}}
	cases := []struct {
		want api.Errno
		do   func(b *api.Body)
	}{
		{api.ErrArg, func(b *api.Body) { *b = api.Body{} }},
		{api.ErrArg, func(b *api.Body) { b.Kind, b.Fast, b.Shape = 3, true, brick }},
		{api.ErrArg, func(b *api.Body) { b.Pose.At.Z = 1<<42 + 1; b.Fast, b.Kind = true, api.Fixed }},
		{api.ErrArg, func(b *api.Body) { b.Pose.Turn.W = one + 9; b.Shape = api.Shape{} }},
		{api.ErrArg, func(b *api.Body) { b.P.X = 1<<54 + 1; b.Kind = api.Fixed }},
		{api.ErrArg, func(b *api.Body) { b.L.X = math.MinInt }},
		{api.ErrArg, func(b *api.Body) { b.Friction = one + 1 }},
		{api.ErrShapeForm, func(b *api.Body) { b.Shape = api.Shape{}; b.Fast = true }},
		{api.ErrShapeForm, func(b *api.Body) { b.Shape.Radius = 0; heavy(b) }},
		{api.ErrShapeFlat, func(b *api.Body) { b.Shape = flat; b.Fast = true }},
		{api.ErrBodyMass, func(b *api.Body) { heavy(b); b.Fast, b.Shape = true, brick }},
		{api.ErrBodyMass, func(b *api.Body) { b.Mass.Inertia.Y = 1<<12 - 1; b.P.Y = 65 * one }},
		{api.ErrWorldKind, func(b *api.Body) { b.Fast, b.Kind = true, api.Fixed }},
		{api.ErrWorldKind, func(b *api.Body) { b.Fast, b.Shape = true, brick }},
		{api.ErrWorldKind, func(b *api.Body) {
			b.Fast, b.Shape.Kind, b.Shape.Half.X = true, api.Capsule, 9
			b.P.Y = 65 * one
		}},
		{api.ErrRange, func(b *api.Body) { b.P.Y = 64*one + 1 }},
		{api.ErrRange, func(b *api.Body) { b.P.Y = -64*one - 1; b.Fast = true }},
		{api.ErrRange, func(b *api.Body) { b.L.Z = 16*b.Mass.Inertia.Z + b.Mass.Inertia.Z/4 }},
		{api.ErrRange, func(b *api.Body) { b.Mass.Inertia = v(1<<12, 1<<12, 1<<12); b.L.X = 1 << 54 }}, // its spin can not be told
	}
	for range 2 { // of an empty world and of a full one
		for i, c := range cases {
			b := ball(0, 0, 0, 400)
			c.do(&b)
			x.adds(b, 0, c.want)
			if t.Failed() {
				t.Fatal(i)
			}
		}
		for len(x.w.Bodies()) < api.MaxBodies {
			x.add(ball(0, 0, 0, 400))
		}
		x.adds(ball(0, 0, 0, 400), 0, api.ErrPoolFull)
	}
}

func TestX2AddEnds(t *testing.T) {
	x := grown(t)
	for i, do := range []func(b *api.Body){
		func(b *api.Body) { b.P = v(0, -64*one, 0) },
		func(b *api.Body) { b.Mass.Inertia = v(one, one, one); b.L = v(16*one, 0, 0) },
		func(b *api.Body) { b.Fast = true; b.P.X = 60 * one },
		func(b *api.Body) { b.Pose.At = v(1<<42, -1<<42, 1<<42) },
		func(b *api.Body) { b.Pose.Turn.W = one - 8 },
		func(b *api.Body) { b.Group, b.Mask, b.Friction = math.MinInt, math.MaxInt, one },
		func(b *api.Body) { b.Group, b.Mask, b.Friction = 0, 0, 0 },
		func(b *api.Body) { b.Mass = api.Mass{Mass: 1 << 40, Inertia: v(1<<49, 1<<49, 1<<49)}; b.P.Z = 64 << 40 },
		func(b *api.Body) { b.Mass = api.Mass{Mass: 1 << 24, Inertia: v(1<<12, 1<<12, 1<<12)}; b.P.Z = 64 << 24 },
		func(b *api.Body) { b.Shape.Points = []api.Point{{X: 5}, {Y: math.MinInt}} }, // a ball's are not looked at
	} {
		b := ball(0, 0, 0, 400)
		do(&b)
		x.adds(b, handleOf(i, 0), api.OK)
		if got := x.get(handleOf(i, 0)); !sameBody(got, b) {
			t.Errorf("%d: %+v, not %+v", i, got, b)
		}
	}
	if x.w.Book() != plus(v(60*one, -64*one, 0), v(0, 0, 64<<40+64<<24)) {
		t.Error(x.w.Book())
	}
}

// TestX2AddBegins: whatever is handed in, a body begins awake; a fixed one has no momentum.
func TestX2AddBegins(t *testing.T) {
	x := grown(t)
	b := asleep(with(ball(0, 0, 0, 400), func(b *api.Body) { b.P, b.L, b.Out = v(1, 2, 3), v(4, 5, 6), true }))
	x.adds(b, 1, api.OK)
	want := with(b, func(b *api.Body) { b.Quiet, b.Asleep, b.Out = 0, false, false })
	if got := x.get(1); !sameBody(got, want) {
		t.Errorf("%+v", got)
	}
	f := asleep(with(block(0, 0, 0, api.Point{X: 1, Y: 1, Z: 1}), func(f *api.Body) {
		f.P, f.L, f.Out, f.Mass = v(1<<54, -1<<54, 1), v(1<<54, 5, 6), true, api.Mass{Mass: -5, Inertia: v(1, math.MinInt, 0)}
	}))
	x.adds(f, 2, api.OK)
	want = with(f, func(b *api.Body) { b.Quiet, b.Asleep, b.Out, b.P, b.L = 0, false, false, api.Vec{}, api.Vec{} })
	if got := x.get(2); !sameBody(got, want) {
		t.Errorf("%+v", got)
	}
	if x.w.Book() != v(1, 2, 3) {
		t.Error(x.w.Book())
	}
}

func TestX2Get(t *testing.T) {
	x := grown(t, ball(0, 0, 0, 400))
	for _, h := range append(wild(), 2, 3) {
		if b, is := x.w.Get(h); is || !sameBody(b, api.Body{}) {
			t.Error(h, b, is)
		}
		if _, is := x.w.Patch(1, h); is {
			t.Error(h)
		}
		x.remove(h, api.ErrPoolNone)
		x.push(h, api.Vec{}, api.Vec{}, api.ErrPoolNone)
	}
	x.remove(1, api.OK)
	if _, is := x.w.Get(1); is {
		t.Error("it is there still")
	}
	x.remove(1, api.ErrPoolNone)
	x.adds(ball(0, 0, 0, 400), 65537, api.OK)
	x.remove(1, api.ErrPoolNone)
	x.adds(ball(0, 0, 0, 400), 2, api.OK)
}

func TestX2Remove(t *testing.T) {
	far := func(i int) api.Body {
		return with(asleep(ball(i*9000, 0, 0, 400)), func(b *api.Body) { b.Quiet = 30 + i })
	}
	// 1 is joined to 2, 3 (which is out) and 9, touches 2, 4, 5 (fixed) and 8 (out); 6 and 7 have to do with one another.
	wall := block(5*9000, 0, 0, api.Point{X: 1, Y: 1, Z: 1})
	x := laid(t, far(0), far(1), out(far(2)), far(3), wall, far(5), far(6), out(far(7)), far(8), far(9))
	for i, j := range []api.Joint{rope(1, 10), rope(3, 1), rope(6, 7), rope(9, 1)} {
		x.b.joints[i+1].thing = &j
	}
	x.b.body(3).Asleep, x.b.body(8).Asleep = false, false
	x = x.touched(1, 2, 1, 4, 1, 5, 1, 8, 4, 6, 6, 7)
	x.remove(1, api.OK)
	x.events()
	x.touching(4, 6, 6, 7)
	x.sleep(false, false, false, false, true, true, false, false, false) // of 2 to 10
	for h, want := range map[api.Handle]int{2: 0, 3: 7, 4: 0, 5: 0, 6: 35, 7: 36, 8: 7, 9: 0, 10: 0} {
		if got := x.get(h).Quiet; got != want {
			t.Errorf("%d is quiet for %d, not %d", h, got, want)
		}
	}
	if l := x.w.Joints(); !slices.Equal(l, []api.Handle{4}) {
		t.Error(l)
	}
	for _, h := range []api.Handle{2, 3, 5} {
		if _, is := x.w.Joint(h); is {
			t.Error("a joint of nobody:", h)
		}
		x.unjoin(h, api.ErrPoolNone)
	}
	x.joins(rope(2, 4), 65536*0+1, api.OK)
	x.joins(rope(2, 4), 65536+2, api.OK)
}

// TestX2RemoveFixed: who lay on what is removed is woken; what was its momentum is in
// the book no more.
func TestX2RemoveFixed(t *testing.T) {
	x := laid(t, block(0, 0, 0, api.Point{X: 900, Y: 900, Z: 900}), asleep(ball(0, 1300, 0, 400)), with(ball(9000, 0, 0, 400), func(b *api.Body) { b.P = v(5, -6, 7) }), asleep(ball(0, 9000, 0, 400))).touched(1, 2)
	if x.w.Book() != v(5, -6, 7) {
		t.Error(x.w.Book())
	}
	x.remove(1, api.OK)
	x.sleep(false, false, true)
	x.touching()
	x.remove(3, api.OK)
	if x.w.Book() != (api.Vec{}) {
		t.Error(x.w.Book())
	}
	x.stepped(api.OK)
	x.events()
}

func TestX3Push(t *testing.T) {
	x := laid(t, asleep(ball(4096, 0, 0, 400)), block(0, -9000, 0, api.Point{X: 1, Y: 1, Z: 1}), out(ball(9000, 0, 0, 400)), with(ball(0, 9000, 0, 400), func(b *api.Body) { b.Quiet = 5 }))
	for _, h := range []api.Handle{2, 3} { // ahead of all numbers
		x.push(h, api.Vec{}, api.Vec{}, api.ErrWorldKind)
		x.push(h, v(math.MaxInt, 0, 0), v(0, math.MinInt, 0), api.ErrWorldKind)
	}
	for _, c := range []struct{ at, impulse api.Vec }{
		{pt(4096, 0, 0), v(0, 64*one+1, 0)}, {pt(4096, 0, 0), v(48*one, 0, -48*one)},
		{pt(4096, 400, 0), v(16*one, 0, 0)}, // it would turn too fast
		{v(math.MaxInt, 0, 0), v(1, 0, 0)}, {v(0, math.MinInt, 0), v(1, 0, 0)}, {v(0, 0, 1<<62), api.Vec{}},
		{pt(4096, 0, 0), v(0, 1<<62, 0)}, {pt(4096, 0, 0), v(0, 0, math.MinInt)},
		{v(-1<<61, 0, 0), v(0, 4*one, 0)}, {pt(4096, 0, 0), v(1<<54+1, 0, 0)},
	} {
		x.push(1, c.at, c.impulse, api.ErrRange)
		x.sleep(true, false, false, false)
	}
	x.push(1, pt(4096, 0, 0), v(0, 0, -64*one), api.OK) // just as fast as may be
	if b := x.get(1); b.P != v(0, 0, -64*one) || b.L != (api.Vec{}) || b.Asleep || b.Quiet != 0 {
		t.Errorf("%+v", b)
	}
	x.push(1, pt(4096, 0, 0), v(0, 0, -1), api.ErrRange)
	x.push(1, pt(4096+4096, 0, 0), v(0, one/1024, 0), api.ErrRange) // still
	x.push(1, pt(4096, 0, 0), v(0, 0, 63*one), api.OK)
	x.push(1, pt(4096+4096, 0, 0), v(0, one/1024, 0), api.OK) // at an arm of One
	if b := x.get(1); b.P != v(0, one/1024, -one) || b.L != v(0, 0, one/1024) {
		t.Errorf("%+v", b)
	}
	if x.w.Book() != v(0, one/1024, -one) {
		t.Error(x.w.Book())
	}
	x.push(4, api.Vec{}, api.Vec{}, api.OK) // by nothing, and yet woken
	if b := x.get(4); b.Quiet != 0 || b.P != (api.Vec{}) {
		t.Errorf("%+v", b)
	}
}

func TestX4Join(t *testing.T) {
	x := laid(t, asleep(ball(0, 0, 0, 400)), asleep(ball(0, 9000, 0, 400)), block(0, -9000, 0, api.Point{X: 1, Y: 1, Z: 1}), out(ball(9000, 0, 0, 400)), asleep(ball(0, 0, 9000, 400)))
	for _, j := range []api.Joint{{}, {Kind: 9, A: 1, B: 99}, {Kind: api.Rope, A: 1, B: 1}, {Kind: api.Rope, A: 0, B: 99}, {Kind: api.Weld, A: 1, B: 2, AtA: v(1<<37+1, 0, 0)}, {Kind: api.Hinge, A: 1, B: 77}} {
		x.joins(j, 0, api.ErrJointForm)
	}
	for _, h := range []api.Handle{6, 24, 25, 65537, 65538, math.MaxInt} {
		x.joins(rope(1, h), 0, api.ErrPoolNone)
		x.joins(rope(h, 1), 0, api.ErrPoolNone)
	}
	x.sleep(true, true, false, false, true)
	x.joins(rope(2, 1), 1, api.OK)
	x.sleep(false, false, false, false, true)
	if j, is := x.w.Joint(1); j != rope(2, 1) || !is {
		t.Error(j, is)
	}
	x.joins(rope(3, 4), 2, api.OK) // a fixed one and one that is out
	if b := x.get(4); !b.Out || b.Quiet != 7 {
		t.Errorf("%+v", b)
	}
	x.joins(rope(4, 5), 3, api.OK)
	x.sleep(false, false, false, false, false)
	hinge := api.Joint{Kind: api.Hinge, A: 1, B: 2, AtA: v(1, 2, 3), AtB: v(4, 5, 6), AxisA: v(0, one, 0), AxisB: v(0, 0, one), Long: 7, Motor: -8, Force: 9}
	x.joins(hinge, 4, api.OK)
	if j, is := x.w.Joint(4); j != hinge || !is {
		t.Error(j, is)
	}
	for i := 4; i < api.MaxJoints; i++ {
		x.joins(rope(1, 3), handleOf(i, 0), api.OK)
	}
	x.joins(rope(1, 3), 0, api.ErrPoolFull)
	x.joins(rope(1, 6), 0, api.ErrPoolNone)
	x.joins(rope(6, 6), 0, api.ErrJointForm)
	for _, h := range wild() {
		if j, is := x.w.Joint(h); is || j != (api.Joint{}) {
			t.Error(h, j)
		}
		x.unjoin(h, api.ErrPoolNone)
	}
}

// TestX4JoinFull: who would have been joined sleeps on.
func TestX4JoinFull(t *testing.T) {
	x := laid(t, asleep(ball(0, 0, 0, 400)), asleep(ball(0, 9000, 0, 400)), block(0, -9000, 0, api.Point{X: 1, Y: 1, Z: 1}), block(0, -9900, 0, api.Point{X: 1, Y: 1, Z: 1}))
	for range api.MaxJoints {
		x.join(rope(3, 4))
	}
	x.joins(rope(1, 2), 0, api.ErrPoolFull)
	x.sleep(true, true, false, false)
}

func TestX4Unjoin(t *testing.T) {
	x := laid(t, asleep(ball(0, 0, 0, 400)), asleep(ball(0, 9000, 0, 400)), asleep(ball(9000, 0, 0, 400)), out(ball(0, 0, 9000, 400)))
	for i, j := range []api.Joint{rope(1, 2), rope(2, 3), rope(4, 3)} {
		x.b.joints[i].thing = &j
	}
	x = lived(t, x.b)
	x.unjoin(1, api.OK)
	x.sleep(false, false, true, false)
	x.unjoin(1, api.ErrPoolNone)
	x.unjoin(3, api.OK)
	x.sleep(false, false, false, false)
	if b := x.get(4); !b.Out || b.Quiet != 7 {
		t.Errorf("%+v", b)
	}
	if !slices.Equal(x.w.Joints(), []api.Handle{2}) {
		t.Error(x.w.Joints())
	}
	x.joins(rope(1, 2), 65537, api.OK)
	x.joins(rope(1, 2), 65539, api.OK)
	if !slices.Equal(x.w.Joints(), []api.Handle{65537, 2, 65539}) {
		t.Error(x.w.Joints())
	}
}
