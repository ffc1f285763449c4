package world_test

import (
	"slices"
	"testing"

	"tumbler/api"
	"tumbler/shape"
)

func begin(a, b api.Handle) api.Event { return api.Event{Kind: api.EventBegin, A: a, B: b} }

func end(a, b api.Handle) api.Event { return api.Event{Kind: api.EventEnd, A: a, B: b} }

func alone(kind int, a api.Handle) api.Event { return api.Event{Kind: kind, A: a} }

func moving(b api.Body, p api.Vec) api.Body { return with(b, func(b *api.Body) { b.P = p }) }

func quiet(b api.Body, n int) api.Body { return with(b, func(b *api.Body) { b.Quiet = n }) }

// dot is a ball of Radius 400 on the first axis.
func dot(x int) api.Body { return ball(x, 0, 0, 400) }

// speck is a fixed brick far away from all.
func speck() api.Body { return block(0, 900000, 0, api.Point{X: 1, Y: 1, Z: 1}) }

// joined lays ropes that are not taut into a world of numbers.
func (x *both) joined(l ...api.Handle) *both {
	x.t.Helper()
	for i := 0; i+1 < len(l); i += 2 {
		x.b.join(rope(l[i], l[i+1]))
	}
	return x
}

// kept lays bodies anew behind joints, which would have woken them.
func (x *both) kept(l ...api.Body) *both {
	x.t.Helper()
	for i := range l {
		*x.b.body(handleOf(i, 0)) = l[i]
	}
	return lived(x.t, x.b)
}

// tied is a world of these bodies, and of ropes that are not taut.
func tied(t *testing.T, ropes []api.Handle, l ...api.Body) *both {
	t.Helper()
	return laid(t, slices.Clone(l)...).joined(ropes...).kept(l...)
}

func TestX5Fall(t *testing.T) {
	x := begun(t, v(0, -10*one, 1<<37), &counts{})
	x.add(ball(0, 20480, 0, 4096))
	x.add(block(0, 900000, 0, api.Point{X: 1, Y: 1, Z: 1}))
	x.add(with(ball(0, -20480, 0, 4096), func(b *api.Body) { b.Mass.Mass = 3 * one }))
	x.stepped(api.OK)
	if b := x.get(1); b.P != v(0, -10*one/64, 1<<31) || b.Pose.At != v(0, 5*one-10*one/4096, 1<<25) || b.L != (api.Vec{}) {
		t.Errorf("%+v", b)
	}
	if b := x.get(3); b.P != v(0, -30*one/64, 3<<31) || b.Pose.At != v(0, -5*one-10*one/4096, 1<<25) {
		t.Errorf("%+v", b)
	}
	if x.w.Steps() != 1 || x.w.Book() != v(0, -40*one/64, 4<<31) {
		t.Error(x.w.Steps(), x.w.Book())
	}
	x.events()
	b := &book{pull: v(0, -10*one, 0)}
	sleeps, gone := asleep(dot(0)), out(dot(9000))
	b.bodies[2].thing, b.bodies[5].thing = &sleeps, &gone
	x = lived(t, b)
	x.stepped(api.OK)
	for h, want := range map[api.Handle]api.Body{3: sleeps, 6: gone} {
		if !sameBody(x.get(h), want) {
			t.Errorf("%d: %+v", h, x.get(h))
		}
	}
}

// TestX5Steps: what is refused ahead of all parts.
func TestX5Steps(t *testing.T) {
	x := lived(t, &book{steps: 1<<40 - 1})
	x.stepped(api.OK)
	if x.w.Steps() != 1<<40 {
		t.Error(x.w.Steps())
	}
	x.stepped(api.ErrRange)
	x.stepped(api.ErrRange)
	x = many(t, 57)
	x.b.steps = 1<<40 - 1
	x = lived(t, x.b)
	x.stepped(api.OK) // 57 events
	x.stepped(api.ErrRange)
	x.w.Take()
	x.b.take()
	x.stepped(api.ErrRange)
}

// many is a world in which so many pairs end to touch in the next step.
func many(t *testing.T, ends int) *both {
	t.Helper()
	var l []api.Body
	for i := range 24 {
		l = append(l, dot(i*9000))
	}
	x := laid(t, l...)
	for a := api.Handle(1); a <= 24; a++ {
		for b := a + 1; b <= 24; b++ {
			if len(x.b.touch) < ends {
				x.b.touch = append(x.b.touch, api.Pair{A: a, B: b})
			}
		}
	}
	return lived(t, x.b)
}

func TestX5EventFull(t *testing.T) {
	for ends, want := range map[int]api.Errno{0: api.OK, 56: api.OK, 57: api.ErrEventFull, 200: api.ErrEventFull, 256: api.ErrEventFull} {
		x := many(t, ends)
		x.stepped(api.OK)
		x.stepped(want)
		for len(x.b.queue) > 56 {
			x.b.take()
			x.w.Take()
			if len(x.b.queue) > 56 && ends < 100 {
				x.stepped(api.ErrEventFull)
			}
		}
		x.stepped(api.OK)
	}
	for ends, want := range map[int]api.Errno{256: api.OK, 257: api.ErrEventFull, 276: api.ErrEventFull} {
		x := many(t, ends)
		x.stepped(want)
		if want != api.OK {
			x.events()
		}
	}
}

// TestX5EventsBehind: 56 events are there, and there is room for just 200 more.
func TestX5EventsBehind(t *testing.T) {
	for more, want := range map[int]api.Errno{200: api.OK, 201: api.ErrEventFull} {
		var l []api.Body
		for i := range 24 {
			l = append(l, asleep(dot(i*9000)))
		}
		x := laid(t, l...)
		first := 0
		for a := api.Handle(1); a <= 24; a++ {
			for b := a + 1; b <= 24; b++ {
				p := api.Pair{A: a, B: b}
				switch {
				case a <= 3 && first < 56:
					first++
					x.b.touch = append(x.b.touch, p)
				case a > 3 && len(x.b.touch)-first < more:
					x.b.touch = append(x.b.touch, p)
				}
			}
		}
		x = lived(t, x.b)
		for h := api.Handle(1); h <= 3; h++ {
			x.push(h, api.Vec{}, api.Vec{}, api.OK)
		}
		x.stepped(api.OK)
		if len(x.b.queue) != 56 {
			t.Fatal(len(x.b.queue))
		}
		points, tris := plain(-90000)
		x.land(points, tris) // wakes all
		x.stepped(want)
		x.drain()
		x.stepped(api.OK)
	}
}

// TestX5Near: two have a patch up to a Gap of 16, and touch up to one of 0.
func TestX5Near(t *testing.T) {
	for gap, want := range map[int]struct{ touches, patch bool }{
		-300: {true, true}, -1: {true, true}, 0: {true, true}, 1: {false, true}, 15: {false, true}, 16: {false, true}, 17: {false, false}, 18: {false, false}, 40: {false, false},
	} {
		for _, b := range []api.Body{dot(0), block(0, 0, 0, api.Point{X: 400, Y: 400, Z: 400})} {
			x := grown(t, dot(800+gap), b)
			if _, is := x.w.Patch(2, 1); is != want.patch {
				t.Errorf("a Gap of %d: %v", gap, is)
			}
			x.stepped(api.OK)
			if want.touches {
				x.touching(1, 2)
				x.events(begin(1, 2))
			} else {
				x.touching()
				x.events()
			}
		}
	}
}

// needle is a long hull with a Radius of 100, its tip to the right or, turned about, to
// the left; none of its faces looks along it.
func needle(x, about int) api.Body {
	b := ball(x, 0, 0, 400)
	b.Shape = api.Shape{Kind: api.Hull, Radius: 100, Points: []api.Point{{X: 2000 * about}, {X: -3000 * about, Y: 60}, {X: -1000 * about, Y: -40, Z: 50}, {X: -2000 * about, Y: -40, Z: -50}}}
	return b
}

// TestX5Spans: two whose boxes are too far apart have no patch, though no axis of theirs
// tells them apart.
func TestX5Spans(t *testing.T) {
	for far, want := range map[int]bool{200: true, 215: true, 216: true, 217: false, 218: false, 300: false} {
		x := grown(t, needle(0, 1), needle(4000+far, -1))
		p, is := x.w.Patch(1, 2)
		if is != want || is != (len(p.Spots) > 0) {
			t.Errorf("%d: %v", far, p)
		}
		if x.stepped(api.OK); want {
			x.touching(1, 2)
		} else {
			x.touching()
		}
	}
}

// TestX5May: who may touch whom, by Group and Mask.
func TestX5May(t *testing.T) {
	for _, c := range []struct {
		group, mask, otherGroup, otherMask int
		want                               bool
	}{
		{1, 1, 1, 1, true}, {1, 2, 2, 1, true}, {1, 2, 1, 2, false}, {1, 1, 2, 1, false}, {2, 1, 1, 1, false}, {1, 1, 1, 2, false}, {1, 2, 1, 1, false},
		{3, 4, 4, 2, true}, {3, 4, 5, 2, true}, {3, 4, 3, 2, false}, {0, 1, 1, 1, false}, {1, 0, 1, 1, false}, {-1, -1, -1, -1, true}, {-1, 1, 1, -1, true}, {-1 << 63, 1, 1, -1 << 63, true},
		{4, 8, 8, 4, true}, {4, 8, 8, 3, false}, {4, 7, 8, 4, false},
	} {
		a, b := dot(0), dot(300)
		a.Group, a.Mask, b.Group, b.Mask = c.group, c.mask, c.otherGroup, c.otherMask
		x := grown(t, a, b)
		if p, is := x.w.Patch(1, 2); is != c.want || is != (len(p.Spots) > 0) {
			t.Errorf("%+v: %v", c, p)
		}
		if x.stepped(api.OK); c.want {
			x.touching(1, 2)
		} else {
			x.touching()
		}
	}
}

// TestX5Awake: of two in one another, one of whom must be awake to begin to touch.
func TestX5Awake(t *testing.T) {
	kinds := []struct {
		is    api.Body
		awake bool
		gone  bool
	}{{dot(0), true, false}, {asleep(dot(0)), false, false}, {with(dot(0), func(b *api.Body) { b.Kind = api.Fixed }), false, false}, {out(dot(0)), false, true}}
	for _, a := range kinds {
		for _, b := range kinds {
			now := !a.gone && !b.gone && (a.awake || b.awake)
			for _, before := range []bool{false, true} {
				for _, gap := range []int{-200, 9000} {
					x := laid(t, a.is, with(b.is, func(b *api.Body) { b.Pose.At.X = (800 + gap) * grain }))
					if before {
						x = x.touched(1, 2)
					}
					x.stepped(api.OK)
					carried := before && !a.gone && !b.gone && !a.awake && !b.awake
					switch is := now && gap < 0 || carried; {
					case is && before:
						x.touching(1, 2)
						x.events()
					case is:
						x.touching(1, 2)
						x.events(begin(1, 2))
					case before:
						x.touching()
						x.events(end(1, 2))
					default:
						x.touching()
						x.events()
					}
				}
			}
		}
	}
}

// TestX5Carried: who touched and may not touch any more, ends to, asleep or not.
func TestX5Carried(t *testing.T) {
	x := laid(t, asleep(dot(0)), with(asleep(dot(9000)), func(b *api.Body) { b.Group = 2 }), asleep(dot(18000)), speck(), speck()).touched(1, 2, 1, 3, 2, 3, 3, 4, 4, 5)
	x.stepped(api.OK)
	x.touching(1, 3, 3, 4, 4, 5)
	x.events(end(1, 2), end(2, 3))
	x.stepped(api.OK)
	x.events()
	x.push(3, api.Vec{}, api.Vec{}, api.OK)
	x.stepped(api.OK)
	x.touching(4, 5)
	x.events(end(1, 3), end(3, 4))
}

// crowd is so many balls in one place.
func crowd(x, n int) []api.Body {
	var l []api.Body
	for i := range n {
		l = append(l, dot(x+i))
	}
	return l
}

func TestX5PairsFull(t *testing.T) {
	full := slices.Concat(crowd(0, 11), crowd(20000, 4), crowd(40000, 3)) // 55, 6 and 3
	x := grown(t, full...)
	x.stepped(api.OK)
	if len(x.w.Touching()) != 64 {
		t.Error(x.w.Touching())
	}
	x = grown(t, append(full, dot(60000), dot(60816))...) // one more, though they do not touch
	x.stepped(api.ErrPairsFull)
	x.events()
	x.touching()
	x = grown(t, append(full, dot(60000), dot(60817))...)
	x.stepped(api.OK)
	var still []api.Body
	for _, b := range full {
		still = append(still, asleep(b))
	}
	x = laid(t, append(still, asleep(dot(60000)), asleep(dot(60816)))...)
	x.stepped(api.OK) // of those that sleep nothing is asked
	x.touching()
}

func TestX5Groups(t *testing.T) {
	a, b := dot(0), asleep(dot(9000))
	wall := block(9000, -1400, 0, api.Point{X: 20000, Y: 1000, Z: 1000})
	for i, c := range []struct {
		ropes []api.Handle
		l     []api.Body
		want  []bool
	}{
		{nil, []api.Body{a, b}, []bool{false, true}},
		{nil, []api.Body{a, asleep(dot(810))}, []bool{false, false}}, // near is enough
		{nil, []api.Body{a, asleep(dot(816))}, []bool{false, false}},
		{nil, []api.Body{a, asleep(dot(817))}, []bool{false, true}},
		{nil, []api.Body{asleep(dot(810)), a}, []bool{false, false}},
		{[]api.Handle{1, 2}, []api.Body{a, b}, []bool{false, false}},
		{[]api.Handle{2, 1}, []api.Body{b, a}, []bool{false, false}},
		{[]api.Handle{1, 2, 2, 3, 4, 3, 5, 6}, []api.Body{a, b, asleep(dot(18000)), asleep(dot(27000)), asleep(dot(36000)), asleep(dot(45000))}, []bool{false, false, false, false, true, true}},
		{[]api.Handle{5, 6, 3, 4}, []api.Body{asleep(dot(-9000)), b, asleep(dot(18000)), a, asleep(dot(36000)), dot(45000)}, []bool{true, true, false, false, false, false}},
		{[]api.Handle{1, 2, 2, 3}, []api.Body{a, speck(), b}, []bool{false, false, true}}, // a wall joins nothing
		{[]api.Handle{1, 2, 2, 3}, []api.Body{a, out(dot(0)), b}, []bool{false, false, true}},
		{nil, []api.Body{a, wall, b}, []bool{false, false, true}},
		{[]api.Handle{1, 2}, []api.Body{asleep(dot(0)), asleep(dot(9000))}, []bool{true, true}},
		{nil, []api.Body{asleep(dot(0)), asleep(dot(700))}, []bool{true, true}},
		{nil, []api.Body{a, asleep(dot(810)), asleep(dot(1610))}, []bool{false, false, true}}, // two that sleep are not asked
	} {
		x := tied(t, c.ropes, c.l...)
		x.stepped(api.OK)
		x.sleep(c.want...)
		for h, still := range c.want {
			if was := c.l[h]; was.Asleep && !still && x.get(handleOf(h, 0)).Quiet > 1 {
				t.Errorf("%d: %d was woken and is quiet for long", i, h+1)
			} else if still && !sameBody(x.get(handleOf(h, 0)), was) {
				t.Errorf("%d: %d sleeps, and is another", i, h+1)
			}
		}
	}
	x := laid(t, a, asleep(dot(810)), asleep(dot(1610)))
	x.stepped(api.OK)
	x.stepped(api.OK)
	x.sleep(false, false, false)
}

// TestX5Ground: a patch with the ground is up to 16 grains wide: what comes nearer than
// that may only come as far as to touch.
func TestX5Ground(t *testing.T) {
	points, tris := plain(-1000)
	for gap, want := range map[int]int{0: 0, 1: -1 << 26, 5: -5 << 26, 15: -15 << 26, 16: -16 << 26, 17: -4 * one, 18: -4 * one} {
		x := grown(t, moving(ball(300, gap-600, 100, 400), v(0, -4*one, 0)))
		x.land(points, tris)
		x.stepped(api.OK)
		if b := x.get(1); b.P != v(0, want, 0) {
			t.Errorf("%d: %v, not %d", gap, b.P, want)
		}
		x.touching()
		x.events()
	}
	deep := asleep(ball(300, -800, 100, 400))
	x := tied(t, []api.Handle{1, 2}, deep, dot(50000), asleep(ball(9000, -800, 0, 400)))
	x.land(points, tris)
	x = lived(t, x.b).kept(deep, dot(50000), asleep(ball(9000, -800, 0, 400)))
	x.stepped(api.OK)
	if b := x.get(1); b.Asleep || b.P.Y <= 0 { // woken in this step, and lifted
		t.Errorf("%+v", b)
	}
	if b := x.get(3); !b.Asleep || b.P != (api.Vec{}) {
		t.Errorf("%+v", b)
	}
}

// grid is a ground of 128 triangles.
func grid() (points []api.Point, tris [][3]int) {
	for z := range 9 {
		for x := range 9 {
			points = append(points, api.Point{X: x * 1000, Z: z * 1000})
			if x > 0 && z > 0 {
				a, b, c, d := (z-1)*9+x-1, (z-1)*9+x, z*9+x-1, z*9+x
				tris = append(tris, [3]int{a, c, b}, [3]int{b, c, d})
			}
		}
	}
	return points, tris
}

func TestX5GroundFull(t *testing.T) {
	wide := with(block(4000, 500, 4000, api.Point{X: 4200, Y: 500, Z: 4200}), func(b *api.Body) {
		b.Kind = api.Moving
		b.Mass, _ = shape.Mass(b.Shape, one)
	})
	on := func(gap int) api.Body {
		return with(ball(300, 400+gap, 300, 400), func(b *api.Body) { b.Group = 2 })
	}
	for i, c := range []struct {
		more []api.Body
		want api.Errno
	}{
		{nil, api.OK}, // 128
		{[]api.Body{on(16)}, api.ErrPairsFull},
		{[]api.Body{on(17)}, api.OK},
		{[]api.Body{asleep(on(0))}, api.OK},
		{[]api.Body{out(on(0))}, api.OK},
		{[]api.Body{dot(100000), dot(100816)}, api.ErrPairsFull}, // those of bodies are counted, too
		{[]api.Body{dot(100000), dot(100817)}, api.OK},
	} {
		x := laid(t, append(c.more, wide)...)
		x.b.points, x.b.tris = grid()
		x = lived(t, x.b)
		x.stepped(c.want)
		if t.Failed() {
			t.Fatal(i)
		}
	}
}

// TestX5Rub: what rubs is the product of both Frictions; the ground's is One.
func TestX5Rub(t *testing.T) {
	const low = 16 * one // a 64th of that is what it weighs in a step
	for _, c := range []struct{ a, b, want int }{{one, one, one}, {one / 2, one, one / 2}, {one / 2, one / 2, one / 4}, {one / 4, one / 2, one / 8}, {0, one, 0}, {one, 0, 0}} {
		slides := with(block(0, 400, 0, api.Point{X: 4000, Y: 400, Z: 4000}), func(b *api.Body) {
			b.Kind, b.Friction, b.P = api.Moving, c.a, v(8*one, 0, 0)
			b.Mass = api.Mass{Mass: one, Inertia: v(1<<49, 1<<49, 1<<49)} // it does not turn
		})
		for _, ground := range []bool{false, true} {
			x := begun(t, v(0, -low, 0), &counts{})
			x.add(slides)
			want := one / 4 / one * c.want
			if want = c.want / 4; ground {
				x.land(plain(0))
				want = c.a / 4
			} else {
				x.add(with(block(0, -1000, 0, api.Point{X: 9000, Y: 1000, Z: 9000}), func(b *api.Body) { b.Friction = c.b }))
			}
			x.stepped(api.OK)
			if lost := 8*one - x.get(1).P.X; lost < want-want/50 || lost > want+want/50 {
				t.Errorf("%+v: %d, not %d", c, lost, want)
			}
		}
	}
}

// TestX5Joints: a joint holds, if one of both is awake and none is out.
func TestX5Joints(t *testing.T) {
	taut := api.Joint{Kind: api.Rope, A: 1, B: 2, Long: one}
	a, b := dot(0), dot(9000)
	for i, c := range []struct {
		l     []api.Body
		holds bool
	}{
		{[]api.Body{a, b}, true}, {[]api.Body{a, asleep(b)}, true}, {[]api.Body{asleep(a), b}, true}, {[]api.Body{asleep(a), asleep(b)}, false},
		{[]api.Body{a, out(b)}, false}, {[]api.Body{out(a), b}, false},
		{[]api.Body{a, block(9000, 0, 0, api.Point{X: 1, Y: 1, Z: 1})}, true},
		{[]api.Body{asleep(a), block(9000, 0, 0, api.Point{X: 1, Y: 1, Z: 1})}, false},
	} {
		x := laid(t, c.l...)
		x.b.joints[3].thing = &taut
		x = lived(t, x.b)
		x.stepped(api.OK)
		if got := x.get(1).P.X > 0 || x.get(2).P.X < 0; got != c.holds {
			t.Errorf("%d: %v %v", i, x.get(1).P, x.get(2).P)
		}
	}
}

// TestX5Bad: what can not be reckoned is refused, and nothing has changed.
func TestX5Bad(t *testing.T) {
	light := with(dot(0), func(b *api.Body) { b.Mass.Inertia = v(1<<12, 1<<12, 1<<12) })
	x := tied(t, nil, light, moving(dot(90000), v(one, 0, 0)))
	j := api.Joint{Kind: api.Socket, A: 1, B: 2, AtA: v(1<<37, 1<<37, 1<<37)}
	x.joins(j, 1, api.OK)
	x.stepped(api.ErrRange)
	x.stepped(api.ErrRange)
	x.events()
	x.unjoin(1, api.OK)
	x.stepped(api.OK)
	if b := x.get(2); b.P != v(one, 0, 0) || b.Pose.At != plus(pt(90000, 0, 0), v(one/64, 0, 0)) {
		t.Errorf("%+v", b)
	}
}

func TestX5Clamp(t *testing.T) {
	x := begun(t, v(0, -1<<37, 0), &counts{})
	x.add(moving(dot(0), v(0, -64*one, 0)))
	x.add(moving(dot(9000), v(0, -63*one, 0)))
	x.add(moving(dot(18000), v(0, -63*one-one/2, 0)))
	x.stepped(api.OK)
	x.events(alone(api.EventClamp, 1))
	for h, want := range map[api.Handle]int{1: -32*one - one/4, 2: -63*one - one/2, 3: -64 * one} {
		if b := x.get(h); b.P != v(0, want, 0) || b.Pose.At.Y != want/64 {
			t.Errorf("%d: %v", h, b.P)
		}
	}
	if x.w.Book() != v(0, -159*one-one*3/4, 0) {
		t.Error(x.w.Book())
	}
}

// TestX5ClampTurned: a body that turns so that it would turn too fast is cut behind its
// way; one that is cut twice is told once.
func TestX5ClampTurned(t *testing.T) {
	d, n := dice(7), &counts{}
	for range 4000 {
		b := dot(0)
		b.Mass.Inertia = v(one, 4*one, 16*one)
		b.L = v(d.part(16*one), d.part(64*one), d.part(256*one))
		b.Pose.Turn = d.turn()
		if takes(b) != api.OK {
			continue
		}
		x := begun(t, v(0, -1<<37, 0), n)
		b.P.Y = -64 * one * d.below(2)
		x.add(b)
		x.stepped(api.OK)
		x.drain()
		if n.cutLate > 3 && n.cutTwice > 3 {
			return
		}
	}
	t.Errorf("%+v", *n)
}

func TestX5Out(t *testing.T) {
	edge := with(dot(0), func(b *api.Body) { b.Pose.At.X, b.P, b.L, b.Quiet = 1<<42, v(1, 0, 0), v(0, 0, one/1024), 9 })
	for away, gone := range map[int]bool{0: true, 1: false} {
		x := laid(t, with(edge, func(b *api.Body) { b.P.X = 64; b.Pose.At.X -= away }), speck(), asleep(dot(9000))).touched(1, 2).joined(1, 3)
		x.b.body(1).Quiet, x.b.body(3).Asleep = 9, true
		x = lived(t, x.b)
		x.stepped(api.OK)
		b := x.get(1)
		if !gone {
			if b.Out || b.Pose.At.X != 1<<42 {
				t.Errorf("%+v", b)
			}
			continue
		}
		want := with(edge, func(b *api.Body) { b.P, b.L, b.Out = api.Vec{}, api.Vec{}, true })
		if !sameBody(b, want) || x.w.Book() != (api.Vec{}) {
			t.Errorf("%+v, not %+v", b, want)
		}
		x.events(alone(api.EventOut, 1), end(1, 2))
		x.stepped(api.OK)
		x.events()
		if !sameBody(x.get(1), want) {
			t.Errorf("%+v, not %+v", x.get(1), want)
		}
	}
}

// TestX5OutTouching: who goes out while it touches somebody ends to with the next step.
func TestX5OutTouching(t *testing.T) {
	at := 1<<22 - 100
	x := grown(t, moving(dot(at), v(60*one, 0, 0)), block(at, -1300, 0, api.Point{X: 900, Y: 900, Z: 900}))
	x.stepped(api.OK)
	x.events(alone(api.EventOut, 1), begin(1, 2))
	x.touching(1, 2)
	if _, is := x.w.Patch(1, 2); is {
		t.Error("it is out")
	}
	x.stepped(api.OK)
	x.events(end(1, 2))
	x.touching()
}

// wallAt is a thin fixed one across the first axis.
func wallAt(x int) api.Body { return block(x, 0, 0, api.Point{X: 50, Y: 4000, Z: 4000}) }

func TestX5Held(t *testing.T) {
	quick := with(moving(dot(0), v(60*one, 0, 0)), func(b *api.Body) { b.Fast = true })
	through := func(b *api.Body) { b.Fast = false }
	way := 60 * 64 // grains of a step
	for i, c := range []struct {
		l    []api.Body
		held bool
	}{
		{[]api.Body{quick}, false},
		{[]api.Body{quick, wallAt(2000)}, true},
		{[]api.Body{quick, wallAt(way + 400)}, true},
		{[]api.Body{quick, wallAt(way + 500)}, false},
		{[]api.Body{with(quick, through), wallAt(2000)}, false},
		{[]api.Body{quick, with(wallAt(2000), func(b *api.Body) { b.Mask = 2 })}, false},
		{[]api.Body{quick, with(wallAt(2000), func(b *api.Body) { b.Group = 2 })}, false},
		{[]api.Body{quick, with(dot(2000), func(b *api.Body) { b.Mass.Mass = 1 << 40 })}, false}, // it moves: it holds nobody
		{[]api.Body{quick, asleep(dot(2000))}, false},
		{[]api.Body{quick, wallAt(2000), wallAt(1200), wallAt(3000)}, true},
	} {
		x := laid(t, c.l...)
		x.stepped(api.OK)
		b := x.get(1)
		if held := b.Pose.At.X < way*grain; held != c.held || held != slices.Contains(x.b.queue, alone(api.EventHeld, 1)) || b.P != quick.P {
			t.Errorf("%d: %v %v %v", i, b.Pose.At, b.P, x.b.queue)
		}
	}
}

// TestX5HeldByGround: triangles hold a fast ball, too; but not one that it is in.
func TestX5HeldByGround(t *testing.T) {
	points := []api.Point{{X: 2000, Y: -9000, Z: -9000}, {X: 2000, Y: 9000, Z: -9000}, {X: 2000, Z: 9000}}
	for from, held := range map[int]bool{0: true, 1550: true, 2600: false, -1900: true, -4000: false} {
		x := begun(t, api.Vec{}, &counts{})
		x.land(points, [][3]int{{0, 1, 2}})
		x.add(with(moving(dot(from), v(60*one, 0, 0)), func(b *api.Body) { b.Fast = true }))
		x.stepped(api.OK)
		if is := slices.Contains(x.b.queue, alone(api.EventHeld, 1)); is != held || held != (x.get(1).Pose.At.X < (from+60*64)*grain) {
			t.Errorf("%d: %v", from, x.get(1).Pose.At)
		}
		x.events(x.b.queue...)
	}
}

// TestX5Quiet: quiet is who is slower than 2^25 in both.
func TestX5Quiet(t *testing.T) {
	for i, c := range []struct {
		p, l api.Vec
		was  int
		want int
	}{
		{api.Vec{}, api.Vec{}, 0, 1}, {v(1<<25-1, 0, 0), api.Vec{}, 5, 6}, {v(0, -1<<25, 0), api.Vec{}, 5, 0}, {v(0, 0, 1<<25), api.Vec{}, 0, 0},
		{api.Vec{}, v(1<<25-1, 0, 0), 30, 31}, {api.Vec{}, v(0, 1<<25, 0), 30, 0}, {v(1<<25-1, 0, 0), v(0, 1<<25-1, 0), 7, 8},
		{v(24000000, 24000000, 0), api.Vec{}, 9, 0}, {v(23000000, 23000000, 0), api.Vec{}, 9, 10}, {v(one, 0, 0), v(one, 0, 0), 1 << 29, 0},
	} {
		x := laid(t, with(dot(0), func(b *api.Body) { b.P, b.L, b.Quiet, b.Mass.Inertia = c.p, c.l, c.was, v(one, one, one) }))
		x.stepped(api.OK)
		if b := x.get(1); b.Quiet != c.want || b.Asleep || b.P != c.p || b.L != c.l {
			t.Errorf("%d: %+v", i, b)
		}
	}
}

func TestX5Rest(t *testing.T) {
	slow := func(x, n int) api.Body {
		return with(quiet(dot(x), n), func(b *api.Body) { b.P, b.L = v(0, 0, 1000), v(0, 10, 0) })
	}
	fast := moving(dot(20000), v(0, one, 0))
	for i, c := range []struct {
		ropes []api.Handle
		l     []api.Body
		want  []bool
	}{
		{nil, []api.Body{slow(0, 30), slow(9000, 31), slow(18000, 32), slow(27000, 1<<30)}, []bool{false, true, true, true}},
		{[]api.Handle{1, 2}, []api.Body{slow(0, 30), slow(9000, 31)}, []bool{false, false}},
		{[]api.Handle{1, 2}, []api.Body{slow(0, 31), slow(9000, 31)}, []bool{true, true}},
		{[]api.Handle{1, 2}, []api.Body{slow(0, 31), fast}, []bool{false, false}},
		{nil, []api.Body{slow(0, 31), fast}, []bool{true, false}},
		{[]api.Handle{1, 2, 2, 3}, []api.Body{slow(0, 31), speck(), slow(9000, 3)}, []bool{true, false, false}},
		{[]api.Handle{1, 2}, []api.Body{slow(0, 31), out(dot(9000))}, []bool{true, false}},
		{nil, []api.Body{slow(0, 31), asleep(dot(9000))}, []bool{true, true}},
		{nil, []api.Body{slow(0, 31), slow(810, 3)}, []bool{false, false}}, // near is enough
	} {
		x := tied(t, c.ropes, c.l...)
		x.stepped(api.OK)
		x.sleep(c.want...)
		for h, is := range c.want {
			if b := x.get(handleOf(h, 0)); is && (b.P != (api.Vec{}) || b.L != (api.Vec{}) || b.Quiet < 32) {
				t.Errorf("%d: %+v", i, b)
			}
		}
	}
	x := tied(t, []api.Handle{1, 2}, slow(0, 1<<30), fast)
	x.stepped(api.OK)
	if b := x.get(1); b.Quiet != 1<<30 || b.Asleep {
		t.Errorf("%+v", b)
	}
}

// TestX5RestGone: who has left the world keeps nobody awake.
func TestX5RestGone(t *testing.T) {
	leaves := with(moving(dot(0), v(60*one, 0, 0)), func(b *api.Body) { b.Pose.At.X = 1<<42 - 1 })
	x := tied(t, nil, leaves, with(quiet(dot(0), 31), func(b *api.Body) { b.Pose.At.X = 1<<42 - 1 - one }))
	long := api.Joint{Kind: api.Rope, A: 1, B: 2, Long: 9 * one}
	x.b.joints[0].thing = &long
	x = lived(t, x.b)
	x.stepped(api.OK)
	x.sleep(false, true)
	x.events(alone(api.EventOut, 1))
}

// TestX5Order: events of bodies, in their order, are ahead of those of pairs.
func TestX5Order(t *testing.T) {
	edge := func(z int) api.Body {
		return with(moving(ball(0, 0, z, 400), v(64*one, 0, 0)), func(b *api.Body) { b.Pose.At.X = 1<<42 - one/8 })
	}
	b := &book{pull: v(0, -1<<37, 0)}
	wall := with(block(0, 0, 0, api.Point{X: 50, Y: 8000, Z: 8000}), func(b *api.Body) { b.Pose.At.X = 1<<42 - one*5/8 })
	quick := with(moving(dot(0), v(64*one, 0, 0)), func(b *api.Body) { b.Pose.At.X, b.Fast = 1<<42-one, true })
	l := []api.Body{wall, edge(20000), quick, edge(-20000), with(dot(0), func(b *api.Body) { b.Group, b.Mask = 4, 4 }), with(dot(100), func(b *api.Body) { b.Group, b.Mask = 4, 4 }), speck(), moving(dot(-20000), v(0, -64*one, 0))}
	for i := range l {
		b.bodies[i].thing = &l[i]
	}
	b.touch = []api.Pair{{A: 2, B: 5}, {A: 3, B: 5}}
	x := lived(t, b)
	x.stepped(api.OK)
	x.events(alone(api.EventClamp, 2), alone(api.EventOut, 2), alone(api.EventClamp, 3), alone(api.EventHeld, 3), alone(api.EventClamp, 4), alone(api.EventOut, 4), alone(api.EventClamp, 8), begin(5, 6), end(2, 5), end(3, 5))
}
