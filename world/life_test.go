package world_test

import (
	"slices"
	"testing"

	"tumbler/api"
	"tumbler/body"
	"tumbler/fx"
	"tumbler/narrow"
	"tumbler/shape"
	"tumbler/world"
)

// TestX9Rest: a ball that falls on a brick begins to touch it once, comes to rest, and
// is woken by a push.
func TestX9Rest(t *testing.T) {
	x := begun(t, v(0, -10*one, 0), &counts{})
	x.add(ball(0, 16384, 0, 4096))
	x.add(block(0, 0, 0, api.Point{X: 40000, Y: 4096, Z: 40000}))
	for range 300 {
		x.stepped(api.OK)
	}
	b := x.get(1)
	if off := b.Pose.At.Y - 2*one; !b.Asleep || b.P != (api.Vec{}) || off < -8*grain || off > 8*grain || x.w.Book() != (api.Vec{}) {
		t.Errorf("%+v", b)
	}
	x.touching(1, 2)
	x.events(begin(1, 2))
	x.stepped(api.OK)
	if !sameBody(x.get(1), b) {
		t.Errorf("%+v", x.get(1))
	}
	x.push(1, b.Pose.At, v(0, 4*one, 0), api.OK)
	for range 20 {
		x.stepped(api.OK)
	}
	x.sleep(false, false)
	x.events(end(1, 2))
	for range 300 {
		x.stepped(api.OK)
	}
	x.sleep(true, false)
	x.events(begin(1, 2))
	x.remove(2, api.OK)
	x.stepped(api.OK)
	x.sleep(false)
	x.events()
}

// TestX9RestOnGround: what falls on the ground comes to rest, too; what it does not
// reach in its fall goes out of the world in the end.
func TestX9RestOnGround(t *testing.T) {
	x := begun(t, v(0, -10*one, 0), &counts{})
	x.land(plain(0))
	brick := block(0, 1300, 0, api.Point{X: 1500, Y: 1000, Z: 1500})
	brick.Kind = api.Moving
	brick.Mass, _ = shape.Mass(brick.Shape, 2*one)
	x.add(brick)
	x.add(ball(9000, 4000, 0, 500))
	x.add(with(ball(0, -9000, 0, 500), func(b *api.Body) { b.Pose.At.Y = -1<<42 + one }))
	for range 300 {
		x.stepped(api.OK)
	}
	x.sleep(true, true, false)
	for h, want := range map[api.Handle]int{1: 1000, 2: 500} {
		if off := x.get(h).Pose.At.Y - want*grain; off < -8*grain || off > 8*grain {
			t.Errorf("%d is off by %d", h, off)
		}
	}
	x.events(alone(api.EventOut, 3))
	x.touching() // the ground is nobody
	x.push(2, x.get(2).Pose.At, v(0, one, 0), api.OK)
	x.stepped(api.OK)
	x.sleep(true, false, false)
}

// wildly is a world of bodies that are pushed about, near the ends of it too.
func (d *dice) wildly(t *testing.T) *world.World {
	t.Helper()
	w, e := world.New(d.vec(1 << 37))
	if e != api.OK {
		t.Fatal(e)
	}
	at := []api.Vec{{}, {X: 1<<42 - 3*one}, {X: -1<<42 + 3*one, Y: 1<<42 - 3*one, Z: 1<<42 - 3*one}}[d.below(3)]
	for range 8 {
		b := d.body(t, 2*one)
		b.Pose.At = plus(b.Pose.At, at)
		if d.below(4) == 0 {
			b.Mass.Inertia = v(1<<12, 1<<20, 1<<49)
		}
		w.Add(b)
	}
	hs := w.Bodies()
	for range 3 {
		w.Join(d.joint(d.some(hs), d.some(hs)))
	}
	w.Land(d.field(-8000))
	return w
}

// mayStay tells what may not be of a body of a world.
func mayStay(b api.Body) string {
	w := &fx.Work{}
	_, cut := body.Cap(w, b)
	_, is := core(b)
	switch {
	case body.Check(b) != api.OK:
		return "may not be"
	case cut || w.Bad:
		return "is too fast"
	case !is:
		return "can not be placed"
	case body.Gone(b):
		return "is beyond the world"
	case (b.Out || b.Asleep || b.Kind == api.Fixed) && (b.P != api.Vec{} || b.L != api.Vec{}):
		return "rests, and moves"
	}
	return ""
}

// TestX9Within: whatever is done, every body may be and the book is the sum of their
// momenta; what is refused changes nothing.
func TestX9Within(t *testing.T) {
	d, refused, gone := dice(31), 0, 0
	for range 40 {
		w := d.wildly(t)
		for range 30 {
			before := w.Ints()
			hs := w.Bodies()
			var e api.Errno
			switch d.below(3) {
			case 0:
				e = w.Push(d.some(hs), d.vec(4*one), d.vec(64*one))
			default:
				e = w.Step()
			}
			if e != api.OK {
				refused++
				if !slices.Equal(before, w.Ints()) {
					t.Fatalf("%d changed %v to %v", e, before, w.Ints())
				}
			}
			var sum api.Vec
			for _, h := range hs {
				b, _ := w.Get(h)
				if is := mayStay(b); is != "" {
					t.Fatalf("%d %s: %+v", h, is, b)
				}
				if b.Out {
					gone++
				}
				sum = plus(sum, b.P)
			}
			if sum != w.Book() {
				t.Fatalf("%v, not %v", w.Book(), sum)
			}
			if d.below(4) == 0 {
				for _, is := w.Take(); is; _, is = w.Take() {
				}
			}
		}
	}
	if refused < 20 || gone < 20 {
		t.Error("too few of one kind:", refused, gone)
	}
}

// TestX9Events: whoever does what the events tell knows who touches.
func TestX9Events(t *testing.T) {
	d, told := dice(41), 0
	for range 30 {
		w, e := world.Of(d.state(t, 2*one).ints())
		if e != api.OK {
			t.Fatal(e)
		}
		known := w.Touching()
		for range 15 {
			if e := w.Step(); e != api.OK {
				t.Fatal(e)
			}
			for e, is := w.Take(); is; e, is = w.Take() {
				p := api.Pair{A: e.A, B: e.B}
				i := slices.Index(known, p)
				switch {
				case e.Kind == api.EventBegin && i < 0:
					known = append(known, p)
				case e.Kind == api.EventEnd && i >= 0:
					known = slices.Delete(known, i, i+1)
				case e.Kind == api.EventBegin || e.Kind == api.EventEnd || e.B != 0:
					t.Fatalf("%+v of %v", e, known)
				}
				told++
			}
			if now := w.Touching(); len(now) != len(known) || slices.ContainsFunc(now, func(p api.Pair) bool { return !slices.Contains(known, p) }) {
				t.Fatalf("%v, not %v", now, known)
			}
		}
	}
	if told < 100 {
		t.Error("too few events:", told)
	}
}

// TestX9GoesOn: a world of its own numbers goes on as it does.
func TestX9GoesOn(t *testing.T) {
	d := dice(51)
	for range 12 {
		w := d.wildly(t)
		for range 20 {
			w.Step()
			u, e := world.Of(w.Ints())
			if e != api.OK {
				t.Fatal(e, w.Ints())
			}
			for range d.below(4) {
				for _, is := w.Take(); is; _, is = w.Take() {
				}
				if e, f := w.Step(), u.Step(); e != f || !slices.Equal(w.Ints(), u.Ints()) {
					t.Fatalf("%d, %d:\n%v\n%v", e, f, w.Ints(), u.Ints())
				}
			}
			w = u
		}
	}
}

// TestX9NoPull: two that touch and go apart do so unhindered.
func TestX9NoPull(t *testing.T) {
	for _, gap := range []int{-1, 0, 5, 16} {
		for _, side := range []int{0, one} {
			a, b := moving(dot(0), v(-one, side, 0)), moving(dot(800+gap), v(one, -side, one/2))
			x := grown(t, a, b)
			x.stepped(api.OK)
			if x.get(1).P != a.P || x.get(2).P != b.P || x.get(1).L != (api.Vec{}) {
				t.Errorf("%d: %v %v", gap, x.get(1).P, x.get(2).P)
			}
			x = grown(t, with(a, func(b *api.Body) { b.P.X, b.P.Y = side, one }))
			x.land(plain(-400 - gap))
			x.stepped(api.OK)
			if x.get(1).P != v(side, one, 0) {
				t.Errorf("%d: %v", gap, x.get(1).P)
			}
		}
	}
}

// TestX9Back: what two do to one another leaves the sum of their momenta.
func TestX9Back(t *testing.T) {
	d := dice(61)
	for range 60 {
		x := begun(t, api.Vec{}, &counts{})
		for range 6 {
			b := d.body(t, one)
			if b.Kind == api.Fixed {
				continue
			}
			b.P = d.vec(b.Mass.Mass)
			x.add(b)
		}
		hs := x.w.Bodies()
		x.join(d.joint(d.some(hs), d.some(hs)))
		before := x.w.Book()
		x.step()
		if len(x.b.queue) > 0 && slices.ContainsFunc(x.b.queue, func(e api.Event) bool { return e.Kind == api.EventClamp }) {
			continue // what is cut off goes nowhere
		}
		if x.w.Book() != before {
			t.Fatalf("%v, then %v", before, x.w.Book())
		}
	}
}

// TestP2: all two that may touch, one of them awake, that stand in one another when a
// step begins touch behind it; nobody does who is apart.
func TestP2(t *testing.T) {
	d, in, apart := dice(71), 0, 0
	for range 150 {
		w, e := world.Of(d.state(t, one).ints())
		if e != api.OK {
			t.Fatal(e)
		}
		before := w.Touching()
		var l []api.Body
		hs := w.Bodies()
		for _, h := range hs {
			b, _ := w.Get(h)
			l = append(l, b)
		}
		if e := w.Step(); e != api.OK {
			t.Fatal(e)
		}
		for i := range l {
			for j := range i {
				p := api.Pair{A: min(hs[i], hs[j]), B: max(hs[i], hs[j])}
				c, _ := core(l[j])
				e, _ := core(l[i])
				x, _ := narrow.Apart(c, e)
				is, was := slices.Contains(w.Touching(), p), slices.Contains(before, p)
				switch one := awake(l[i]) || awake(l[j]); {
				case !mayTouch(l[i], l[j]) && is, one && x.Gap > 0 && is, !one && is && !was:
					t.Fatalf("%v: a Gap of %d, and they touch", p, x.Gap)
				case !mayTouch(l[i], l[j]):
				case one && x.Gap <= 0 && !is && meets(l[i].Pose.At, l[j], c, e):
					t.Fatalf("%v: a Gap of %d, and they do not touch", p, x.Gap)
				case one && is:
					in++
				default:
					apart++
				}
			}
		}
	}
	if in < 20 || apart < 20 {
		t.Error("too few of one kind:", in, apart)
	}
}

// meets is whether one's middle, taken as a point, is in the other one: then they stand
// in one another for sure.
func meets(at api.Vec, other api.Body, c, e api.Core) bool {
	point := api.Core{Points: []api.Point{{X: at.X >> 20, Y: at.Y >> 20, Z: at.Z >> 20}}}
	x, _ := narrow.Apart(point, c)
	y, _ := narrow.Apart(point, e)
	return x.Gap < 0 && y.Gap < 0 && !other.Out
}

// TestP5: a fast ball never ends in a wall that it was not in, but for few grains.
func TestP5(t *testing.T) {
	d, held := dice(81), 0
	for range 300 {
		w, _ := world.New(d.vec(one))
		b := ball(0, 0, 0, 50+d.below(500))
		b.P, b.Fast = d.vec(36*one), true
		if _, e := w.Add(b); e != api.OK {
			t.Fatal(e)
		}
		for range 5 {
			wall := d.body(t, one)
			wall.Kind, wall.Fast, wall.Group, wall.Mask = api.Fixed, false, 1, 1
			w.Add(wall)
		}
		points, tris := d.field(-2000)
		w.Land(points, tris)
		for range 3 {
			before, _ := w.Get(1)
			w.Step()
			after, _ := w.Get(1)
			c, _ := core(before)
			e, _ := core(after)
			for _, h := range w.Bodies()[1:] {
				wall, _ := w.Get(h)
				f, _ := core(wall)
				from, _ := narrow.Apart(c, f)
				if to, _ := narrow.Apart(e, f); from.Gap >= 0 && to.Gap < -4 {
					t.Fatalf("from a Gap of %d to one of %d: %+v", from.Gap, to.Gap, wall)
				}
			}
		}
		for e, is := w.Take(); is; e, is = w.Take() {
			if e.Kind == api.EventHeld {
				held++
			}
		}
	}
	if held < 50 {
		t.Error("too few were held:", held)
	}
}
