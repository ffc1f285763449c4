package world_test

import (
	"math"
	"slices"
	"testing"

	"tumbler/api"
	"tumbler/world"
)

// aged is a world in which the body of the first place has the greatest handle.
func aged(t *testing.T, l ...api.Body) *both {
	t.Helper()
	b := &book{}
	for i := range l {
		b.bodies[i] = slot[api.Body]{(len(l) - i) % len(l), &l[i]}
	}
	return lived(t, b)
}

func TestX6Touching(t *testing.T) {
	x := aged(t, asleep(dot(0)), speck(), speck(), asleep(dot(0)))
	if l := x.w.Bodies(); !slices.Equal(l, []api.Handle{1, 65536*3 + 2, 65536*2 + 3, 65536 + 4}) {
		t.Error(l)
	}
	x = x.touched(1, 65536+4, 1, 65536*2+3, 1, 65536*3+2, 65536+4, 65536*2+3, 65536+4, 65536*3+2)
	x.touching(1, 65536+4, 1, 65536*2+3, 1, 65536*3+2, 65536+4, 65536*2+3, 65536+4, 65536*3+2)
	x.stepped(api.OK)
	x.touching(1, 65536+4, 1, 65536*2+3, 1, 65536*3+2, 65536+4, 65536*2+3, 65536+4, 65536*3+2)
}

// TestX6Patch: the first one is the one of the lesser place, whichever handle is less
// and whichever is asked first.
func TestX6Patch(t *testing.T) {
	x := aged(t, speck(), dot(600), dot(0))
	first, second := api.Handle(65536*2+2), api.Handle(65536+3)
	want := api.Patch{Axis: api.Point{X: -1 << 20}, Spots: []api.Spot{{At: api.Point{X: 400}, Depth: 200, ID: 256}}}
	for _, l := range [][2]api.Handle{{first, second}, {second, first}} {
		if p, is := x.w.Patch(l[0], l[1]); !samePatch(p, want) || !is {
			t.Errorf("%v: %v %v", l, p, is)
		}
	}
	x.same("Patch") // they do not touch yet
	x.touching()
	for _, l := range [][2]api.Handle{{first, first}, {first, 1}, {1, second}, {first, 2}, {3, second}, {0, first}, {first, 0}, {second, -1}, {math.MaxInt, math.MinInt}, {0, 0}} {
		if p, is := x.w.Patch(l[0], l[1]); !samePatch(p, api.Patch{}) || is {
			t.Errorf("%v: %v %v", l, p, is)
		}
	}
	for _, l := range [][]api.Body{{asleep(dot(0)), asleep(dot(700))}, {block(0, 0, 0, api.Point{X: 9, Y: 9, Z: 9}), block(9, 0, 0, api.Point{X: 9, Y: 9, Z: 9})}} {
		x := laid(t, l...) // nobody is awake, and yet there is one
		if p, is := x.w.Patch(1, 2); len(p.Spots) == 0 || !is {
			t.Error(p, is)
		}
	}
	x = laid(t, dot(0), out(dot(700)), with(dot(700), func(b *api.Body) { b.Mask = 2 }))
	for h := api.Handle(2); h < 4; h++ {
		if p, is := x.w.Patch(1, h); !samePatch(p, api.Patch{}) || is {
			t.Error(h, p, is)
		}
	}
}

func TestX6Take(t *testing.T) {
	x := grown(t, dot(0), dot(700), dot(9000), dot(9700))
	x.stepped(api.OK)
	for i, want := range []api.Event{begin(1, 2), begin(3, 4)} {
		if e, is := x.w.Take(); e != want || !is {
			t.Error(i, e, is)
		}
	}
	x.b.queue = nil
	x.events()
}

func TestX6Ray(t *testing.T) {
	l := []api.Body{out(dot(4000)), dot(16000), dot(8000), with(dot(8000), func(b *api.Body) { b.Pose.At.Y = 8000 * grain }), asleep(dot(-8000)), block(0, -8000, 0, api.Point{X: 100, Y: 100, Z: 100})}
	x := aged(t, l...)
	hs := x.w.Bodies()
	for i, c := range []struct {
		from, way api.Point
		hit       api.Handle
		part      int
		is        bool
	}{
		{api.Point{}, api.Point{X: 32000}, hs[2], 3, true},
		{api.Point{}, api.Point{X: 16000}, hs[2], 7, true},
		{api.Point{}, api.Point{X: 7000}, 0, 16, false},
		{api.Point{X: 8200}, api.Point{X: 1}, hs[2], 0, true}, // in it
		{api.Point{X: 9000}, api.Point{X: 16000}, hs[1], 6, true},
		{api.Point{}, api.Point{X: -32000}, hs[4], 3, true},
		{api.Point{}, api.Point{Y: -8000}, hs[5], 15, true},
		{api.Point{}, api.Point{Y: 90000}, 0, 16, false},
		{api.Point{}, api.Point{X: 1<<22 + 1}, 0, 0, false}, // no way, so that nothing is free
		{api.Point{Y: math.MinInt}, api.Point{X: 9}, 0, 0, false},
		{api.Point{}, api.Point{Z: math.MinInt}, 0, 0, false},
	} {
		if h, part, is := x.w.Ray(c.from, c.way); h != c.hit || part != c.part || is != c.is {
			t.Errorf("%d: %d %d %v, not %d %d %v", i, h, part, is, c.hit, c.part, c.is)
		}
	}
	x.same("Ray")
	twins := aged(t, dot(8000), dot(8000), speck())
	if h, _, is := twins.w.Ray(api.Point{}, api.Point{X: 32000}); h != 1 || !is { // the first one of equals
		t.Error(h)
	}
}

func TestX6Over(t *testing.T) {
	x := aged(t, dot(0), out(dot(0)), dot(9000), asleep(dot(500)), with(dot(400), func(b *api.Body) { b.Mask = 0 }), block(0, 0, 0, api.Point{X: 10, Y: 10, Z: 10}))
	hs := x.w.Bodies()
	at := func(x int) api.Pose { return dot(x).Pose }
	s := api.Shape{Kind: api.Ball, Radius: 100}
	for i, c := range []struct {
		s    api.Shape
		p    api.Pose
		want []api.Handle
	}{
		{s, at(0), []api.Handle{hs[0], hs[3], hs[4], hs[5]}},
		{s, at(-500), []api.Handle{hs[0]}}, {s, at(-501), nil}, {s, at(8600), []api.Handle{hs[2]}}, {s, at(50000), nil},
		{api.Shape{Kind: api.Brick, Half: api.Point{X: 9000, Y: 1, Z: 1}}, at(0), []api.Handle{hs[0], hs[2], hs[3], hs[4], hs[5]}},
		{api.Shape{}, at(0), nil}, {api.Shape{Kind: api.Ball}, at(0), nil}, {api.Shape{Kind: api.Hull, Points: make([]api.Point, 4)}, at(0), nil},
		{s, api.Pose{At: v(1<<44, 0, 0)}, nil}, {s, api.Pose{At: v(math.MinInt, 0, 0)}, nil},
	} {
		if l := x.w.Over(c.s, c.p); !slices.Equal(l, c.want) {
			t.Errorf("%d: %v, not %v", i, l, c.want)
		}
	}
	x.same("Over")
}

// TestX9Memory: nothing that is handed in is written into or kept; what comes out is its
// owner's.
func TestX9Memory(t *testing.T) {
	hull := []api.Point{{X: 900}, {Y: 900}, {Z: 900}, {}, {X: 77}}
	points, tris := plain(-500)
	points, tris = append(points, api.Point{X: 77})[:4], append(tris, [3]int{77})[:2]
	x := begun(t, api.Vec{}, &counts{})
	b := with(ball(0, 0, 0, 400), func(b *api.Body) { b.Shape = api.Shape{Kind: api.Hull, Points: hull[:4]} })
	x.add(b)
	clear(hull)
	x.same("kept")
	copy(hull, []api.Point{{X: 900}, {Y: 900}, {Z: 900}, {}, {X: 77}})
	x.add(dot(300))
	x.add(dot(20000))
	x.add(with(b, func(b *api.Body) { b.Kind, b.Pose.At = api.Fixed, pt(0, 90000, 0) })) // no step touches it
	x.join(rope(1, 3))
	x.land(points, tris)
	x.step()
	ints := append(x.w.Ints(), 77)
	u, e := world.Of(ints[:len(ints)-1])
	if e != api.OK {
		t.Fatal(e)
	}
	x.w.Over(b.Shape, b.Pose)
	if hull[0] != (api.Point{X: 900}) || hull[4] != (api.Point{X: 77}) || points[:5][4] != (api.Point{X: 77}) || tris[:3][2] != [3]int{77} || ints[len(ints)-1] != 77 {
		t.Error("written into")
	}
	clear(hull)
	clear(points)
	clear(tris)
	clear(ints)
	x.b.points, x.b.tris = plain(-500)
	x.same("kept")
	if !slices.Equal(u.Ints(), x.w.Ints()) {
		t.Error("kept")
	}
	for range 2 {
		got, _ := x.w.Get(1)
		patch, _ := x.w.Patch(1, 2)
		spoil(got.Shape.Points, api.Point{X: 5})
		spoil(patch.Spots, api.Spot{ID: 5})
		spoil(x.w.Touching(), api.Pair{A: 5, B: 6})
		spoil(x.w.Bodies(), 5)
		spoil(x.w.Joints(), 5)
		spoil(x.w.Ints(), 5)
		spoil(x.w.Over(b.Shape, b.Pose), 5)
		x.same("what came out was written into")
		if !slices.Equal(u.Ints(), x.w.Ints()) {
			t.Error("worlds share memory")
		}
		d := dice(3)
		x.ask(&d)
	}
	x.step()
	x.same("what came out was written into")
}

// spoil writes into a list and its spare room, and grows it.
func spoil[T any](l []T, with T) {
	l = l[:cap(l)]
	for i := range l {
		l[i] = with
	}
	_ = append(l, with)
}

// TestX9Apart: worlds know nothing of one another.
func TestX9Apart(t *testing.T) {
	d, n := dice(11), &counts{}
	var l []*both
	for range 3 {
		x := begun(t, v(0, -10*one, 0), n)
		x.land(d.field(-8000))
		for range 6 {
			x.add(d.body(t, 3*one))
		}
		l = append(l, x)
	}
	for range 60 {
		x := l[d.below(3)]
		x.step()
		x.act(&d)
		for _, y := range l {
			y.same("one of three")
		}
	}
}
