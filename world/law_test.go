package world_test

import (
	"reflect"
	"slices"
	"testing"

	"tumbler/api"
	"tumbler/fx"
	"tumbler/shape"
	"tumbler/vec"
	"tumbler/world"
)

// dice tells numbers below n, the same ones each time.
type dice uint64

func (d *dice) below(n int) int {
	*d = *d*6364136223846793005 + 1442695040888963407
	return int(uint64(*d)>>33) % n
}

// part is a number up to most in size.
func (d *dice) part(most int) int { return d.below(1<<20)*(most>>19) - most }

func (d *dice) vec(most int) api.Vec {
	return api.Vec{X: d.part(most), Y: d.part(most), Z: d.part(most)}
}

func (d *dice) point(most int) api.Point {
	return api.Point{X: d.below(2*most+1) - most, Y: d.below(2*most+1) - most, Z: d.below(2*most+1) - most}
}

func (d *dice) turn() api.Quat {
	if d.below(3) == 0 {
		return api.Quat{W: one}
	}
	w := &fx.Work{}
	q := vec.Whole(w, api.Quat{W: d.part(one), X: d.part(one), Y: d.part(one), Z: d.part(one)})
	if w.Bad {
		return api.Quat{W: one}
	}
	return q
}

func (d *dice) shape() api.Shape {
	switch d.below(7) {
	case 0, 1, 2:
		return api.Shape{Kind: api.Ball, Radius: 200 + d.below(3000)}
	case 3:
		return api.Shape{Kind: api.Capsule, Radius: 200 + d.below(2000), Half: api.Point{X: 300 + d.below(3000)}}
	case 4, 5:
		return api.Shape{Kind: api.Brick, Radius: d.below(2) * 100, Half: api.Point{X: 400 + d.below(3000), Y: 400 + d.below(3000), Z: 400 + d.below(3000)}}
	}
	s := api.Shape{Kind: api.Hull, Radius: d.below(2) * 50}
	for shape.Check(s) != api.OK {
		s.Points = nil
		for range 4 + d.below(3) {
			s.Points = append(s.Points, d.point(3000))
		}
	}
	return s
}

// body is one of an arena as wide as this, in FX.
func (d *dice) body(t *testing.T, wide int) api.Body {
	t.Helper()
	b := api.Body{Kind: api.Moving, Shape: d.shape(), Pose: api.Pose{At: d.vec(wide), Turn: d.turn()}, Group: 1, Mask: 1, Friction: d.below(5) * one / 4}
	m, e := shape.Mass(b.Shape, one/2+d.below(8)*one)
	if e != api.OK {
		t.Fatal(b.Shape, e)
	}
	b.Mass = m
	if d.below(3) == 0 {
		b.Group, b.Mask = 1+d.below(3), 1+d.below(3)
	}
	switch d.below(8) {
	case 0, 1:
		b.Kind, b.Mass = api.Fixed, api.Mass{}
	case 2, 3:
	case 4:
		b.Fast = b.Shape.Kind == api.Ball
		b.P = d.vec(30 * b.Mass.Mass)
	default:
		w := &fx.Work{}
		b.P = d.vec(6 * b.Mass.Mass)
		b.L = api.Vec{X: w.Mul(d.part(2*one), m.Inertia.X), Y: w.Mul(d.part(2*one), m.Inertia.Y), Z: w.Mul(d.part(2*one), m.Inertia.Z)}
	}
	return b
}

func (d *dice) joint(a, b api.Handle) api.Joint {
	j := api.Joint{Kind: 1 + d.below(4), A: a, B: b, AtA: d.vec(one), AtB: d.vec(one), Long: d.below(4) * one}
	if d.below(10) == 0 {
		j.Kind = 5 * d.below(2)
	}
	if j.Kind == api.Hinge {
		j.AxisA, j.AxisB = api.Vec{Y: one}, api.Vec{Z: -one}
		j.Motor, j.Force = d.part(one), d.below(3)*one
	}
	return j
}

// field is a ground of some triangles around the middle, of this height or so.
func (d *dice) field(height int) ([]api.Point, [][3]int) {
	const n, step = 3, 9000
	var points []api.Point
	var tris [][3]int
	for z := range n {
		for x := range n {
			points = append(points, api.Point{X: (x - 1) * step, Y: height + d.below(1500), Z: (z - 1) * step})
			if x > 0 && z > 0 {
				a, b, c := (z-1)*n+x-1, (z-1)*n+x, z*n+x-1
				tris = append(tris, [3]int{a, c, b}, [3]int{b, c, z*n + x})
			}
		}
	}
	return points, tris
}

// both is a world, and the rules over again.
type both struct {
	t *testing.T
	w *world.World
	b *book
	n *counts
}

// same holds all that a world tells against the book.
func (x *both) same(what string) {
	x.t.Helper()
	if !slices.Equal(x.w.Ints(), x.b.ints()) {
		x.t.Fatalf("%s:\n%v, not\n%v", what, x.w.Ints(), x.b.ints())
	}
	if !slices.Equal(x.w.Touching(), x.b.touch) || x.w.Steps() != x.b.steps || x.w.Book() != x.b.sum() {
		x.t.Fatalf("%s: %v, %d steps, %v; not %v, %d, %v", what, x.w.Touching(), x.w.Steps(), x.w.Book(), x.b.touch, x.b.steps, x.b.sum())
	}
	if !slices.Equal(x.w.Bodies(), handles(x.b.bodies[:])) || !slices.Equal(x.w.Joints(), handles(x.b.joints[:])) {
		x.t.Fatalf("%s: %v %v, not %v %v", what, x.w.Bodies(), x.w.Joints(), handles(x.b.bodies[:]), handles(x.b.joints[:]))
	}
}

func (x *both) errno(what string, got, want api.Errno) {
	x.t.Helper()
	if got != want {
		x.t.Fatalf("%s: %d, not %d", what, got, want)
	}
	x.same(what)
}

func (x *both) handle(what string, got api.Handle, e api.Errno, want api.Handle, wantE api.Errno) {
	x.t.Helper()
	if got != want {
		x.t.Fatalf("%s: %d, not %d", what, got, want)
	}
	x.errno(what, e, wantE)
}

func (x *both) step() {
	x.t.Helper()
	var want api.Errno
	x.b, want = x.b.step(x.n)
	x.errno("Step", x.w.Step(), want)
}

func (x *both) add(b api.Body) {
	x.t.Helper()
	h, e := x.w.Add(b)
	want, wantE := x.b.add(b)
	x.handle("Add", h, e, want, wantE)
}

func (x *both) join(j api.Joint) {
	x.t.Helper()
	h, e := x.w.Join(j)
	want, wantE := x.b.join(j)
	x.handle("Join", h, e, want, wantE)
}

func (x *both) land(points []api.Point, tris [][3]int) {
	x.t.Helper()
	x.errno("Land", x.w.Land(points, tris), x.b.land(points, tris))
}

func (x *both) drain() {
	x.t.Helper()
	for {
		e, is := x.w.Take()
		want, wantIs := x.b.take()
		if e != want || is != wantIs {
			x.t.Fatalf("Take: %v %v, not %v %v", e, is, want, wantIs)
		}
		if !is {
			return
		}
	}
}

// some is a handle of a list, or, now and then, one that nothing has.
func (d *dice) some(l []api.Handle) api.Handle {
	if len(l) == 0 || d.below(12) == 0 {
		return api.Handle(d.below(5)*40000 - 40000)
	}
	return l[d.below(len(l))]
}

// sameBody is whether two bodies are the same; no points are no points.
func sameBody(a, b api.Body) bool {
	if !slices.Equal(a.Shape.Points, b.Shape.Points) {
		return false
	}
	a.Shape.Points, b.Shape.Points = nil, nil
	return reflect.DeepEqual(a, b)
}

func samePatch(a, b api.Patch) bool { return a.Axis == b.Axis && slices.Equal(a.Spots, b.Spots) }

// ask holds what changes nothing against the book.
func (x *both) ask(d *dice) {
	x.t.Helper()
	bodies, joints := x.w.Bodies(), x.w.Joints()
	g, h := d.some(bodies), d.some(bodies)
	p, is := x.w.Patch(g, h)
	want, wantIs := x.b.patch(g, h)
	if !samePatch(p, want) || is != wantIs {
		x.t.Fatalf("Patch %d %d: %v %v, not %v %v", g, h, p, is, want, wantIs)
	}
	if b, is := x.w.Get(g); is != (x.b.body(g) != nil) || is && !sameBody(b, *x.b.body(g)) || !is && !sameBody(b, api.Body{}) {
		x.t.Fatalf("Get %d: %v %v, not %v", g, b, is, x.b.body(g))
	}
	of := d.some(joints)
	if j, is := x.w.Joint(of); is != (thingOf(x.b.joints[:], of) != nil) || is && j != *thingOf(x.b.joints[:], of) || !is && j != (api.Joint{}) {
		x.t.Fatalf("Joint %d: %v %v", of, j, is)
	}
	if d.below(4) > 0 { // a ray takes long
		return
	}
	from, way := d.point(30000), d.point(60000)
	hit, part, is := x.w.Ray(from, way)
	if wantHit, wantPart, wantIs := x.b.ray(from, way); hit != wantHit || part != wantPart || is != wantIs {
		x.t.Fatalf("Ray %v %v: %d %d %v, not %d %d %v", from, way, hit, part, is, wantHit, wantPart, wantIs)
	}
	s, at := d.shape(), api.Pose{At: d.vec(4 * one), Turn: d.turn()}
	if d.below(10) == 0 {
		s.Radius = -1
	}
	if l, want := x.w.Over(s, at), x.b.over(s, at); !slices.Equal(l, want) {
		x.t.Fatalf("Over %v: %v, not %v", s, l, want)
	}
	x.same("what was asked")
}

// act does one thing to both.
func (x *both) act(d *dice) {
	x.t.Helper()
	bodies, joints := x.w.Bodies(), x.w.Joints()
	switch d.below(16) {
	case 0:
		x.add(d.body(x.t, 3*one))
	case 1:
		h := d.some(bodies)
		x.errno("Remove", x.w.Remove(h), x.b.remove(h))
	case 2, 3, 4:
		h := d.some(bodies)
		at, impulse := d.vec(3*one), d.vec(4*one)
		if d.below(4) == 0 {
			impulse = d.vec(80 * one)
		}
		x.errno("Push", x.w.Push(h, at, impulse), x.b.push(h, at, impulse))
	case 5, 6:
		x.join(d.joint(d.some(bodies), d.some(bodies)))
	case 7:
		h := d.some(joints)
		x.errno("Unjoin", x.w.Unjoin(h), x.b.unjoin(h))
	case 8:
		points, tris := d.field(-8000)
		if d.below(3) == 0 {
			points = points[:4]
		}
		x.land(points, tris)
	case 9, 10:
		x.drain()
	default:
		x.ask(d)
	}
}

// begun is a world without anything, twice.
func begun(t *testing.T, pull api.Vec, n *counts) *both {
	t.Helper()
	w, e := world.New(pull)
	if e != api.OK {
		t.Fatal(pull, e)
	}
	return &both{t, w, &book{pull: pull}, n}
}

// TestX1ToX7Exactly lets worlds live, each with a book of the rules beside it.
func TestX1ToX7Exactly(t *testing.T) {
	d, n := dice(1), &counts{}
	for i := range 60 {
		pull := api.Vec{Y: -10 * one}
		if i%3 == 0 {
			pull = d.vec(one)
		}
		x := begun(t, pull, n)
		if i%2 == 0 {
			x.land(d.field(-8000))
		}
		for range 4 + d.below(10) {
			x.add(d.body(t, 3*one))
		}
		for range 40 {
			x.step()
			if d.below(3) == 0 {
				x.drain()
			}
			if d.below(2) == 0 {
				x.act(&d)
			}
		}
	}
	t.Logf("%+v", *n)
}

// state is a book of a world that is somewhere in its life: some sleep, some are out,
// some nearly rest, some touched; ages are of all kinds. It is as wide as this.
func (d *dice) state(t *testing.T, wide int) *book {
	t.Helper()
	b := &book{pull: d.vec(one), steps: d.below(1000)}
	for range 3 + d.below(12) {
		place := d.below(24)
		x := d.body(t, wide)
		if takes(x) != api.OK {
			continue
		}
		if x.Kind == api.Fixed {
			x.P, x.L = api.Vec{}, api.Vec{}
		} else {
			switch d.below(4) {
			case 0, 1:
				x.Asleep, x.P, x.L, x.Quiet = true, api.Vec{}, api.Vec{}, 32
			case 2:
				x.Out, x.P, x.L = d.below(2) == 0, api.Vec{}, api.Vec{}
				x.Quiet = 28 + d.below(6)
			}
		}
		b.bodies[place] = slot[api.Body]{d.below(3), &x}
	}
	hs := handles(b.bodies[:])
	for i, g := range hs {
		for _, h := range hs[i+1:] {
			if d.below(4) == 0 {
				b.touch = append(b.touch, api.Pair{A: min(g, h), B: max(g, h)})
			}
		}
	}
	for range d.below(4) {
		place := d.below(16)
		if j := d.joint(d.some(hs), d.some(hs)); b.holds(j) == api.OK {
			b.joints[place] = slot[api.Joint]{d.below(3), &j}
		}
	}
	slices.SortFunc(b.touch, func(p, q api.Pair) int {
		if p.A != q.A {
			return int(p.A - q.A)
		}
		return int(p.B - q.B)
	})
	return b
}

// forget makes the ages of places that have nothing noughts, as they are not told.
func (b *book) forget() {
	for i, s := range b.bodies {
		if s.thing == nil {
			b.bodies[i].age = 0
		}
	}
	for i, s := range b.joints {
		if s.thing == nil {
			b.joints[i].age = 0
		}
	}
	b.queue = nil
}

// TestX8Exactly lets worlds of numbers live on, and worlds of their numbers.
func TestX8Exactly(t *testing.T) {
	d, n := dice(2), &counts{}
	for range 80 {
		b := d.state(t, 2*one)
		w, e := world.Of(b.ints())
		if e != api.OK {
			t.Fatal(e, b.ints())
		}
		x := &both{t, w, b, n}
		x.same("Of")
		for range 8 {
			x.step()
			if d.below(3) == 0 {
				x.act(&d)
			}
		}
		again, e := world.Of(x.w.Ints())
		if e != api.OK {
			t.Fatal(e, x.w.Ints())
		}
		x.w = again
		x.b.forget()
		for range 4 {
			x.step()
			x.act(&d)
		}
	}
	t.Logf("%+v", *n)
}
