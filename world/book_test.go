package world_test

import (
	"slices"

	"tumbler/api"
	"tumbler/body"
	"tumbler/ccd"
	"tumbler/contact"
	"tumbler/event"
	"tumbler/fx"
	"tumbler/island"
	"tumbler/joint"
	"tumbler/mesh"
	"tumbler/narrow"
	"tumbler/pairs"
	"tumbler/pose"
	"tumbler/shape"
	"tumbler/solver"
	"tumbler/sweep"
	"tumbler/vec"
)

// slot is a place of a pool, with what it has, if it has something.
type slot[T any] struct {
	age   int
	thing *T
}

func handleOf(place, age int) api.Handle { return api.Handle(age*65536 + place + 1) }

// book is the rules over again: places one by one, the pairs that touch in a row, all
// that is to be told reckoned anew each time.
type book struct {
	pull   api.Vec
	bodies [24]slot[api.Body]
	joints [16]slot[api.Joint]
	points []api.Point
	tris   [][3]int
	touch  []api.Pair
	queue  []api.Event
	steps  int
}

func copied[T any](to, from []slot[T]) {
	for i, s := range from {
		to[i] = s
		if s.thing != nil {
			own := *s.thing
			to[i].thing = &own
		}
	}
}

func (b *book) clone() *book {
	c := *b
	copied(c.bodies[:], b.bodies[:])
	copied(c.joints[:], b.joints[:])
	c.touch, c.queue = slices.Clone(b.touch), slices.Clone(b.queue)
	return &c
}

// thingOf is what has that handle; nil: nothing has.
func thingOf[T any](l []slot[T], h api.Handle) *T {
	for i, s := range l {
		if s.thing != nil && handleOf(i, s.age) == h {
			return s.thing
		}
	}
	return nil
}

func put[T any](l []slot[T], x T) (api.Handle, api.Errno) {
	for i := range l {
		if l[i].thing == nil && l[i].age <= 1<<30 {
			l[i].thing = &x
			return handleOf(i, l[i].age), api.OK
		}
	}
	return 0, api.ErrPoolFull
}

func drop[T any](l []slot[T], h api.Handle) {
	for i := range l {
		if l[i].thing != nil && handleOf(i, l[i].age) == h {
			l[i] = slot[T]{age: l[i].age + 1}
		}
	}
}

func handles[T any](l []slot[T]) []api.Handle {
	var out []api.Handle
	for i, s := range l {
		if s.thing != nil {
			out = append(out, handleOf(i, s.age))
		}
	}
	return out
}

func (b *book) body(h api.Handle) *api.Body { return thingOf(b.bodies[:], h) }

func (b *book) wake(l ...api.Handle) {
	for _, h := range l {
		if x := b.body(h); x.Kind == api.Moving && !x.Out {
			x.Asleep, x.Quiet = false, 0
		}
	}
}

func (b *book) land(points []api.Point, tris [][3]int) api.Errno {
	if _, e := mesh.New(points, tris); e != api.OK {
		return e
	}
	b.points, b.tris = slices.Clone(points), slices.Clone(tris)
	b.wake(handles(b.bodies[:])...)
	return api.OK
}

// takes is whether a body may be added, but for the room.
func takes(x api.Body) api.Errno {
	if e := body.Check(x); e != api.OK {
		return e
	}
	if x.Fast && !(x.Kind == api.Moving && x.Shape.Kind == api.Ball) {
		return api.ErrWorldKind
	}
	w := &fx.Work{}
	if _, cut := body.Cap(w, x); cut || w.Bad {
		return api.ErrRange
	}
	if _, is := core(x); !is {
		return api.ErrRange
	}
	return api.OK
}

func core(x api.Body) (api.Core, bool) {
	c, e := shape.Core(x.Shape)
	if e != api.OK {
		return api.Core{}, false
	}
	return pose.Place(c, x.Pose)
}

func (b *book) add(x api.Body) (api.Handle, api.Errno) {
	if e := takes(x); e != api.OK {
		return 0, e
	}
	x.Quiet, x.Asleep, x.Out = 0, false, false
	if x.Kind == api.Fixed {
		x.P, x.L = api.Vec{}, api.Vec{}
	}
	x.Shape.Points = slices.Clone(x.Shape.Points)
	return put(b.bodies[:], x)
}

func (b *book) remove(h api.Handle) api.Errno {
	if b.body(h) == nil {
		return api.ErrPoolNone
	}
	for _, of := range handles(b.joints[:]) {
		if j := thingOf(b.joints[:], of); j.A == h || j.B == h {
			b.wake(j.A, j.B)
			drop(b.joints[:], of)
		}
	}
	var stay []api.Pair
	for _, p := range b.touch {
		if p.A == h || p.B == h {
			b.wake(p.A, p.B)
		} else {
			stay = append(stay, p)
		}
	}
	b.touch = stay
	drop(b.bodies[:], h)
	return api.OK
}

func (b *book) push(h api.Handle, at, impulse api.Vec) api.Errno {
	x := b.body(h)
	if x == nil {
		return api.ErrPoolNone
	}
	if x.Kind != api.Moving || x.Out {
		return api.ErrWorldKind
	}
	w := &fx.Work{}
	y := body.Push(w, *x, vec.Sub(w, at, x.Pose.At), impulse)
	_, cut := body.Cap(w, y)
	if cut || w.Bad {
		return api.ErrRange
	}
	for _, n := range []int{y.P.X, y.P.Y, y.P.Z, y.L.X, y.L.Y, y.L.Z} {
		if n > 1<<54 || n < -1<<54 {
			return api.ErrRange
		}
	}
	*x = y
	b.wake(h)
	return api.OK
}

func (b *book) holds(j api.Joint) api.Errno {
	if e := joint.Check(j); e != api.OK {
		return e
	}
	if b.body(j.A) == nil || b.body(j.B) == nil {
		return api.ErrPoolNone
	}
	return api.OK
}

func (b *book) join(j api.Joint) (api.Handle, api.Errno) {
	if e := b.holds(j); e != api.OK {
		return 0, e
	}
	h, e := put(b.joints[:], j)
	if e == api.OK {
		b.wake(j.A, j.B)
	}
	return h, e
}

func (b *book) unjoin(h api.Handle) api.Errno {
	j := thingOf(b.joints[:], h)
	if j == nil {
		return api.ErrPoolNone
	}
	b.wake(j.A, j.B)
	drop(b.joints[:], h)
	return api.OK
}

func awake(x api.Body) bool { return x.Kind == api.Moving && !x.Asleep && !x.Out }

func mayTouch(x, y api.Body) bool {
	return !x.Out && !y.Out && x.Group&y.Mask != 0 && y.Group&x.Mask != 0
}

// patchOf is where two cores touch, with how far they are apart.
func patchOf(c, d api.Core) (api.Patch, int, bool) {
	x, is := narrow.Apart(c, d)
	if !is {
		return api.Patch{}, 0, false
	}
	p, is := contact.Touch(c, d, x, 16)
	return p, x.Gap, is
}

func patchOfTwo(x, y api.Body) (api.Patch, int, bool) {
	c, isC := core(x)
	d, isD := core(y)
	if !isC || !isD || !pose.Meet(pose.Grown(pose.Span(c), 8), pose.Grown(pose.Span(d), 8)) {
		return api.Patch{}, 0, false
	}
	return patchOf(c, d)
}

func (b *book) patch(g, h api.Handle) (api.Patch, bool) {
	x, y := b.body(g), b.body(h)
	if x == nil || y == nil || g == h || !mayTouch(*x, *y) {
		return api.Patch{}, false
	}
	if slices.Index(handles(b.bodies[:]), g) > slices.Index(handles(b.bodies[:]), h) {
		x, y = y, x
	}
	p, _, is := patchOfTwo(*x, *y)
	return p, is
}

// cores are those of all that are not Out.
func (b *book) cores() ([]api.Handle, []api.Core) {
	var hs []api.Handle
	var cs []api.Core
	for _, h := range handles(b.bodies[:]) {
		if x := b.body(h); !x.Out {
			c, _ := core(*x)
			hs, cs = append(hs, h), append(cs, c)
		}
	}
	return hs, cs
}

func (b *book) ray(from, way api.Point) (api.Handle, int, bool) {
	hs, cs := b.cores()
	i, part, is := sweep.Ray(from, way, cs)
	if !is {
		return 0, part, false
	}
	return hs[i], part, true
}

func (b *book) over(s api.Shape, p api.Pose) []api.Handle {
	c, is := core(api.Body{Shape: s, Pose: p})
	if !is {
		return nil
	}
	hs, cs := b.cores()
	var out []api.Handle
	for _, i := range sweep.Over(c, cs) {
		out = append(out, hs[i])
	}
	return out
}

func (b *book) take() (api.Event, bool) {
	if len(b.queue) == 0 {
		return api.Event{}, false
	}
	x := b.queue[0]
	b.queue = b.queue[1:]
	return x, true
}

// sum is that of all momenta.
func (b *book) sum() api.Vec {
	var s api.Vec
	for _, h := range handles(b.bodies[:]) {
		s = plus(s, b.body(h).P)
	}
	return s
}

func plus(a, b api.Vec) api.Vec { return api.Vec{X: a.X + b.X, Y: a.Y + b.Y, Z: a.Z + b.Z} }

// tried is the step's parts, one by one; what is done is laid into it.
type tried struct {
	*book
	w       *fx.Work
	hs      []api.Handle
	l       []api.Body
	patches []api.Patch
	of      [][2]int
	touches []api.Pair
	groups  []int
	events  []api.Event
	count   *counts
}

// counts are how often what is rare happened.
type counts struct {
	woken, slept, held, clamped, out, begun, ended, carried, grounded, joined, rangeIn5, full2, full4, full8, patches, cutLate, cutTwice int
}

// step is the book behind a step; itself, if the step is refused.
func (b *book) step(n *counts) (*book, api.Errno) {
	if b.steps >= 1<<40 {
		return b, api.ErrRange
	}
	if len(b.queue) > 56 {
		return b, api.ErrEventFull
	}
	t := &tried{book: b.clone(), w: &fx.Work{}, hs: handles(b.bodies[:]), count: n}
	for _, h := range t.hs {
		t.l = append(t.l, *t.body(h))
	}
	for i, part := range []func() api.Errno{t.part1, t.part2, t.part3, t.part4, t.part5, t.part6, t.part7, t.part8} {
		e := part()
		if e == api.OK && t.w.Bad {
			e = api.ErrRange
		}
		if e != api.OK {
			n.refused(i + 1)
			return b, e
		}
	}
	return t.book, api.OK
}

func (n *counts) refused(part int) {
	switch part {
	case 2:
		n.full2++
	case 4:
		n.full4++
	case 5:
		n.rangeIn5++
	case 8:
		n.full8++
	}
}

func (t *tried) part1() api.Errno {
	for i := range t.l {
		if awake(t.l[i]) {
			t.l[i] = body.Fall(t.w, t.l[i], t.pull, 1<<26)
		}
	}
	return api.OK
}

func (t *tried) part2() api.Errno {
	for i := range t.l {
		for j := range t.l {
			if i >= j || !mayTouch(t.l[i], t.l[j]) {
				continue
			}
			pair := pairs.Of(t.hs[i], t.hs[j])
			if !awake(t.l[i]) && !awake(t.l[j]) {
				if slices.Contains(t.touch, pair) {
					t.touches = append(t.touches, pair)
					t.count.carried++
				}
				continue
			}
			p, gap, is := patchOfTwo(t.l[i], t.l[j])
			if !is {
				continue
			}
			t.patches, t.of = append(t.patches, p), append(t.of, [2]int{i, j})
			if gap <= 0 {
				t.touches = append(t.touches, pair)
			}
		}
	}
	if len(t.patches) > 64 {
		return api.ErrPairsFull
	}
	t.count.patches += len(t.patches)
	slices.SortFunc(t.touches, func(p, q api.Pair) int {
		if p.A != q.A {
			return int(p.A - q.A)
		}
		return int(p.B - q.B)
	})
	return api.OK
}

// place is where in the list the body with that handle stands.
func (t *tried) place(h api.Handle) int { return slices.Index(t.hs, h) }

func (t *tried) part3() api.Errno {
	links, walls := slices.Clone(t.of), make([]bool, len(t.l))
	for _, h := range handles(t.joints[:]) {
		j := thingOf(t.joints[:], h)
		if !t.body(j.A).Out && !t.body(j.B).Out {
			links = append(links, [2]int{t.place(j.B), t.place(j.A)})
		}
	}
	for i, x := range t.l {
		walls[i] = x.Kind == api.Fixed || x.Out
	}
	t.groups = island.Groups(len(t.l), links, walls)
	was := slices.Clone(t.l)
	for i := range t.l {
		for j := range was {
			if was[i].Asleep && awake(was[j]) && t.groups[i] == t.groups[j] {
				t.l[i].Asleep, t.l[i].Quiet = false, 0
			}
		}
		if was[i].Asleep && !t.l[i].Asleep {
			t.count.woken++
		}
	}
	return api.OK
}

func (t *tried) ground() *mesh.Mesh {
	m, e := mesh.New(t.points, t.tris)
	if e != api.OK {
		return nil
	}
	return m
}

func (t *tried) part4() api.Errno {
	m := t.ground()
	for i := range t.l {
		if m == nil || !awake(t.l[i]) {
			continue
		}
		c, _ := core(t.l[i])
		for _, n := range m.Find(pose.Grown(pose.Span(c), 16)) {
			d, _ := m.Tri(n)
			if p, _, is := patchOf(d, c); is {
				t.patches, t.of = append(t.patches, p), append(t.of, [2]int{-1, i})
				t.count.grounded++
			}
		}
	}
	if len(t.patches) > 128 {
		return api.ErrPairsFull
	}
	return api.OK
}

func (t *tried) part5() api.Errno {
	var rows []api.Row
	for i, p := range t.patches {
		rubs := [2]int{1 << 32, 1 << 32}
		for k, n := range t.of[i] {
			if n >= 0 {
				rubs[k] = t.l[n].Friction
			}
		}
		rows = append(rows, solver.Rows(t.w, p, t.of[i][0], t.of[i][1], t.l, t.w.Mul(rubs[0], rubs[1]), len(rows))...)
	}
	for _, h := range handles(t.joints[:]) {
		j := thingOf(t.joints[:], h)
		a, b := t.place(j.A), t.place(j.B)
		if !t.l[a].Out && !t.l[b].Out && (awake(t.l[a]) || awake(t.l[b])) {
			rows = append(rows, joint.Rows(t.w, *j, a, b, t.l)...)
			t.count.joined++
		}
	}
	solver.Solve(t.w, rows, t.l, 8)
	return api.OK
}

func (t *tried) part6() api.Errno {
	tell := func(kind, i int, n *int) {
		t.events = append(t.events, api.Event{Kind: kind, A: t.hs[i]})
		*n++
	}
	m := t.ground()
	for i := range t.l {
		x := &t.l[i]
		if !awake(*x) {
			continue
		}
		var first, second bool
		*x, first = body.Cap(t.w, *x)
		if first {
			tell(api.EventClamp, i, &t.count.clamped)
		}
		was := *x
		*x = body.Go(t.w, *x, 1<<26)
		if x.Fast {
			var walls []api.Core
			for _, y := range t.l {
				if c, _ := core(y); y.Kind == api.Fixed && mayTouch(*x, y) {
					walls = append(walls, c)
				}
			}
			c, _ := core(was)
			d, _ := core(*x)
			for n := range 128 {
				if m != nil && slices.Contains(m.Find(pose.Grown(pose.Join(pose.Span(c), pose.Span(d)), 16)), n) {
					e, _ := m.Tri(n)
					walls = append(walls, e)
				}
			}
			var part int
			x.Pose.At, part = ccd.Hold(t.w, was.Pose.At, x.Pose.At, x.Shape.Radius, walls)
			if part < 16 {
				tell(api.EventHeld, i, &t.count.held)
			}
		}
		*x, second = body.Cap(t.w, *x)
		if second && !first {
			tell(api.EventClamp, i, &t.count.clamped)
			t.count.cutLate++
		}
		if second && first {
			t.count.cutTwice++
		}
		if body.Gone(*x) {
			x.Pose, x.P, x.L, x.Out = was.Pose, api.Vec{}, api.Vec{}, true
			tell(api.EventOut, i, &t.count.out)
		} else if _, is := core(*x); !is {
			return api.ErrRange
		}
	}
	return api.OK
}

func (t *tried) part7() api.Errno {
	var quiets []int
	for i := range t.l {
		x := &t.l[i]
		if !awake(*x) {
			quiets = append(quiets, 1<<30)
			continue
		}
		x.Quiet++
		if vec.Len(t.w, body.Speed(t.w, *x)) >= 1<<25 || vec.Len(t.w, body.Spin(t.w, *x)) >= 1<<25 {
			x.Quiet = 0
		}
		x.Quiet = min(x.Quiet, 1<<30)
		quiets = append(quiets, x.Quiet)
	}
	for i, may := range island.Rest(t.groups, quiets, 32) {
		if may && awake(t.l[i]) {
			t.l[i].Asleep, t.l[i].P, t.l[i].L = true, api.Vec{}, api.Vec{}
			t.count.slept++
		}
	}
	return api.OK
}

func (t *tried) part8() api.Errno {
	old, now := setOf(t.touch), setOf(t.touches)
	diff := event.Diff(old, now)
	if len(t.queue)+len(t.events)+len(diff) > 256 {
		return api.ErrEventFull
	}
	for _, x := range diff {
		if x.Kind == api.EventBegin {
			t.count.begun++
		} else {
			t.count.ended++
		}
	}
	t.queue = slices.Concat(t.queue, t.events, diff)
	t.touch = t.touches
	for i, h := range t.hs {
		*t.body(h) = t.l[i]
	}
	t.steps++
	return api.OK
}

func setOf(l []api.Pair) *pairs.Set {
	s, _ := pairs.New(4096)
	for _, p := range l {
		s.Put(p)
	}
	return s
}

// flag is 1 for true.
func flag(is bool) int {
	if is {
		return 1
	}
	return 0
}

func ofVec(v api.Vec) []int     { return []int{v.X, v.Y, v.Z} }
func ofPoint(p api.Point) []int { return []int{p.X, p.Y, p.Z} }

// ints are all of it, as X7 tells them.
func (b *book) ints() []int {
	l := slices.Concat(ofVec(b.pull), []int{b.steps}, ofVec(b.sum()), []int{len(b.points)})
	for _, p := range b.points {
		l = append(l, ofPoint(p)...)
	}
	l = append(l, len(b.tris))
	for _, t := range b.tris {
		l = append(l, t[0], t[1], t[2])
	}
	l = append(l, len(handles(b.bodies[:])))
	for _, h := range handles(b.bodies[:]) {
		x := b.body(h)
		l = append(l, int(h), x.Kind)
		l = slices.Concat(l, ofVec(x.Pose.At), []int{x.Pose.Turn.W, x.Pose.Turn.X, x.Pose.Turn.Y, x.Pose.Turn.Z}, ofVec(x.P), ofVec(x.L))
		l = slices.Concat(l, []int{x.Mass.Mass}, ofVec(x.Mass.Inertia), []int{x.Shape.Kind, x.Shape.Radius}, ofPoint(x.Shape.Half), []int{len(x.Shape.Points)})
		for _, p := range x.Shape.Points {
			l = append(l, ofPoint(p)...)
		}
		l = append(l, x.Group, x.Mask, x.Friction, flag(x.Fast), flag(x.Asleep), flag(x.Out), x.Quiet)
	}
	l = append(l, len(handles(b.joints[:])))
	for _, h := range handles(b.joints[:]) {
		j := thingOf(b.joints[:], h)
		l = append(l, int(h), j.Kind, int(j.A), int(j.B))
		l = slices.Concat(l, ofVec(j.AtA), ofVec(j.AtB), ofVec(j.AxisA), ofVec(j.AxisB), []int{j.Long, j.Motor, j.Force})
	}
	l = append(l, len(b.touch))
	for _, p := range b.touch {
		l = append(l, int(p.A), int(p.B))
	}
	return l
}
