package chain_test

import (
	"math"
	"reflect"
	"slices"
	"testing"

	"tumbler/api"
	"tumbler/chain"
	"tumbler/fx"
	"tumbler/vec"
)

// dice tells numbers, the same ones each time.
type dice uint64

func (d *dice) below(n int) int {
	*d = *d*6364136223846793005 + 1442695040888963407
	mixed := (uint64(*d) ^ uint64(*d)>>29) * 0xbf58476d1ce4e5b9
	return int(mixed>>1) % n
}

// part is a number of a size of at most n.
func (d *dice) part(n int) int { return d.below(2*n+1) - n }

// long is a number of any length up to 2^n; at times it is one of the ends.
func (d *dice) long(n int) int {
	if d.below(20) == 0 {
		return []int{1 << n, -1 << n, 0, 1, -1}[d.below(5)]
	}
	return d.part(1 << d.below(n+1))
}

func (d *dice) vec(n int) api.Vec { return v(d.long(n), d.long(n), d.long(n)) }

// axis is a direction about as long as One; at times one of the parts is nought, or two
// are the same.
func (d *dice) axis() api.Vec {
	for {
		x := v(d.part(one), d.part(one), d.part(one))
		switch d.below(6) {
		case 0:
			*partsOf(&x)[d.below(3)] = 0
		case 1:
			x.X, x.Y = x.Y, -x.Y
		case 2:
			x = v(0, 0, []int{one - 8, one + 8, -one - 8, one}[d.below(4)])
		}
		w := &fx.Work{}
		if x.X != 0 || x.Y != 0 {
			x = vec.Unit(w, x)
		}
		if long := vec.Len(w, x); one-8 <= long && long <= one+8 {
			return x
		}
	}
}

// link is one that may be at a place.
func (d *dice) link(place int) api.Link {
	x := api.Link{
		Parent: d.below(place+1) - 1, Axis: d.axis(), At: d.vec(36), Middle: d.vec(36), Slides: d.below(3) == 0,
		Speed: d.long(36), Quicken: d.long(36), Mass: max(1<<24, min(1<<40, 1<<d.below(42)+d.long(24))),
	}
	if d.below(2) == 0 {
		x.Parent = place - 1
	}
	x.Angle = d.long(34)
	if x.Slides {
		x.Angle = d.long(36)
	}
	return x
}

func (d *dice) chain() []api.Link {
	var l []api.Link
	for place := range d.below(13) {
		l = append(l, d.link(place))
	}
	return l
}

// pull is mostly one that can be borne.
func (d *dice) pull() api.Vec {
	switch d.below(12) {
	case 0:
		return v(d.part(most), d.part(most), d.part(most))
	case 1:
		n := []int{most, -most, most + 1, -most - 1, math.MinInt, math.MaxInt}[d.below(6)]
		a := d.vec(36)
		*partsOf(&a)[d.below(3)] = n
		return a
	case 2:
		return d.vec(56)
	}
	return d.vec(40)
}

// TestByTheBook holds all calls against exact numbers.
func TestByTheBook(t *testing.T) {
	d, good, bads := dice(1), 0, 0
	for range 6000 {
		l, pull := d.chain(), d.pull()
		want := book(l, pull)
		checkTold(t, []told{{"by the book", l, pull, want}})
		if t.Failed() {
			t.Fatalf("%+v pulled by %+v", l, pull)
		}
		if want.bad {
			bads++
		} else {
			good++
		}
	}
	if good < 3000 || bads < 500 {
		t.Error("too few of one kind:", good, bads)
	}
}

// places are all numbers of a link.
func places(x *api.Link) []*int {
	out := []*int{&x.Parent, &x.Angle, &x.Speed, &x.Quicken, &x.Mass}
	for _, a := range []*api.Vec{&x.Axis, &x.At, &x.Middle} {
		out = append(out, partsOf(a)...)
	}
	return out
}

// TestAtTheEnds lays what is just within and just beyond into each place.
func TestAtTheEnds(t *testing.T) {
	ends := []int{
		0, 1, -1, 2, -2, 3, one, -one, one - 8, one + 8, -one - 8, -one - 9, one + 9, 1 << 24, 1<<24 - 1, 1 << 34, 1<<34 + 1, -1 << 34, -1<<34 - 1,
		1 << 36, 1<<36 + 1, -1 << 36, -1<<36 - 1, 1 << 40, 1<<40 + 1, most, -most, most + 1, -most - 1, math.MaxInt, math.MinInt,
	}
	start := func(n int) []api.Link {
		d := dice(n)
		l := rope(3)
		for i := range l {
			l[i].Slides, l[i].Angle, l[i].Speed = (n>>i)%2 == 1, d.part(one), d.part(one)
			l[i].At, l[i].Middle = v(d.part(one), d.part(one), d.part(one)), v(d.part(one), d.part(one), d.part(one))
		}
		return l
	}
	good, refused := 0, 0
	for n := range 8 {
		for i := range start(n) {
			for place := range places(&api.Link{}) {
				for _, end := range ends {
					l, pull := start(n), v(one, -one, 3)
					*places(&l[i])[place] = end
					var want answers
					if chain.Check(l) == api.OK {
						want = book(l, pull)
						good++
					} else {
						refused++
					}
					checkTold(t, []told{{"at the ends", l, pull, want}})
					if t.Failed() {
						t.Fatalf("%+v", l)
					}
				}
			}
		}
	}
	if good < 2000 || refused < 2000 {
		t.Error("too few of one kind:", good, refused)
	}
}

// TestNeverTooGreat: of links that may be only Loads can have something too great.
func TestNeverTooGreat(t *testing.T) {
	d := dice(2)
	for n := range 2000 {
		end := func(n int) int { return []int{n, -n}[d.below(2)] }
		var l []api.Link
		for place := range 12 {
			x := api.Link{
				Parent: place - 1, Axis: d.axis(), At: v(end(1<<36), end(1<<36), end(1<<36)), Middle: v(end(1<<36), end(1<<36), end(1<<36)),
				Angle: end(1 << 34), Speed: end(1 << 36), Mass: 1 << 40,
			}
			if d.below(4) == 0 {
				x.Slides, x.Angle = true, end(1<<36)
			}
			l = append(l, x)
		}
		if n%2 == 0 { // all in one direction, as far and as fast as may be
			for i := range l {
				l[i].Axis, l[i].Angle, l[i].Speed, l[i].At, l[i].Middle = az(), 0, 1<<36, v(1<<36, -1<<36, 1<<36), v(1<<36, -1<<36, 1<<36)
			}
		}
		if a := ask(l, none(), false); a.changed || a.bad || len(a.places) != 12 || len(a.middles) != 12 || len(a.speeds) != 12 {
			t.Fatalf("%+v: %+v", l, a)
		}
	}
}

// hangsOn is whether a link hangs on another one, or is it.
func hangsOn(l []api.Link, place, on int) bool {
	for place > on {
		place = l[place].Parent
	}
	return place == on
}

// TestC5Behind: what comes behind a link may be left out, and its pose hangs on those
// that it hangs on alone.
func TestC5Behind(t *testing.T) {
	d := dice(3)
	for range 1500 {
		l, w := d.chain(), &fx.Work{}
		if len(l) == 0 {
			continue
		}
		p := chain.Places(w, l)
		n := d.below(len(l) + 1)
		if !slices.Equal(chain.Places(w, l[:n]), p[:n]) {
			t.Fatalf("%d of %+v", n, l)
		}
		place := d.below(len(l))
		other := slices.Clone(l)
		x := d.link(place)
		x.Parent = l[place].Parent
		other[place] = x
		now := chain.Places(w, other)
		for i := range l {
			if now[i] != p[i] && !hangsOn(l, i, place) {
				t.Fatalf("%d of %+v, with %+v at %d: %+v, not %+v", i, l, x, place, now[i], p[i])
			}
		}
		if w.Bad {
			t.Fatalf("%+v: Bad", l)
		}
	}
}

// TestC5Forces: those of the links on the ground sum up to all that is pulled.
func TestC5Forces(t *testing.T) {
	d, many := dice(4), 0
	for range 3000 {
		l, pull, w := d.chain(), d.vec(45), &fx.Work{}
		forces, _, _ := chain.Loads(w, l, pull)
		if w.Bad {
			continue
		}
		many++
		var ground, all api.Vec
		for i, x := range l {
			if x.Parent < 0 {
				ground = vec.Add(w, ground, forces[i])
			}
			all = vec.Add(w, all, vec.Scale(w, pull, x.Mass))
		}
		if ground != all || w.Bad {
			t.Fatalf("%+v, not %+v: %+v pulled by %+v", ground, all, l, pull)
		}
	}
	if many < 2000 {
		t.Error("too few:", many)
	}
}

func TestC5NoSpeed(t *testing.T) {
	d := dice(5)
	for range 1500 {
		l, w := d.chain(), &fx.Work{}
		for i := range l {
			l[i].Speed = 0
		}
		spins, speeds := chain.Motion(w, l)
		rest := make([]api.Vec, len(l))
		if !slices.Equal(spins, rest) || !slices.Equal(speeds, rest) || chain.Momentum(w, l) != none() || w.Bad {
			t.Fatalf("%+v: %+v, %+v", l, spins, speeds)
		}
	}
}

func TestC5AllSlide(t *testing.T) {
	d := dice(6)
	for range 1500 {
		l, w := d.chain(), &fx.Work{}
		for i := range l {
			l[i].Slides = true
		}
		spins, _ := chain.Motion(w, l)
		if !slices.Equal(spins, make([]api.Vec, len(l))) || w.Bad {
			t.Fatalf("%+v: %+v", l, spins)
		}
		for _, p := range chain.Places(w, l) {
			if p.Turn != straight() {
				t.Fatalf("%+v: %+v", l, p)
			}
		}
	}
}

// TestC2Alone: where all are hangs on neither speeds nor masses, and nothing on Quicken.
func TestC2Alone(t *testing.T) {
	d := dice(7)
	for range 1500 {
		l, pull := d.chain(), d.vec(30)
		was := ask(l, pull, false)
		other := slices.Clone(l)
		for i := range other {
			other[i].Quicken = d.long(36)
		}
		if now := ask(other, pull, false); !same(now, was) {
			t.Fatalf("Quicken: %+v, not %+v: %+v", now, was, l)
		}
		for i := range other {
			other[i].Mass = one + d.below(one)
		}
		if now := ask(other, pull, false); !slices.Equal(now.places, was.places) || !slices.Equal(now.middles, was.middles) || !slices.Equal(now.spins, was.spins) || !slices.Equal(now.speeds, was.speeds) {
			t.Fatalf("Mass: %+v, not %+v: %+v", now, was, l)
		}
		other = slices.Clone(l)
		for i := range other {
			other[i].Speed = d.long(36)
		}
		now := ask(other, pull, false)
		now.spins, now.speeds, now.momentum = was.spins, was.speeds, was.momentum
		if !same(now, was) {
			t.Fatalf("Speed: %+v, not %+v: %+v", now, was, l)
		}
	}
}

// tame is a chain of about the size of One, which moves about as fast.
func (d *dice) tame() []api.Link {
	var l []api.Link
	small := func() api.Vec { return v(d.part(one), d.part(one), d.part(one)) }
	for place := range 1 + d.below(5) {
		x := d.link(place)
		x.At, x.Middle, x.Angle, x.Speed, x.Mass = small(), small(), d.part(one), d.part(one), one/2+d.below(one)
		l = append(l, x)
	}
	return l
}

// later is the chain behind a time.
func later(l []api.Link, time int) []api.Link {
	w, out := &fx.Work{}, slices.Clone(l)
	for i, x := range l {
		way := w.Mul(x.Speed, time)
		if !x.Slides { // half the angle's tangent grows by half of one and its square
			way = w.Mul(way, w.Add(one, w.Mul(x.Angle, x.Angle))) / 2
		}
		out[i].Angle += way
	}
	return out
}

// TestC3ByMiddles: the middles go as fast as Motion says.
func TestC3ByMiddles(t *testing.T) {
	const time = 1 << 16
	d := dice(8)
	for range 1500 {
		l, w := d.tame(), &fx.Work{}
		_, speeds := chain.Motion(w, l)
		before, behind := chain.Middles(w, later(l, -time)), chain.Middles(w, later(l, time))
		for i, s := range speeds {
			way := vec.Sub(w, behind[i], before[i])
			off := vec.Sub(w, way, vec.Scale(w, s, 2*time))
			if vec.Len(w, off) > 1<<8 || w.Bad {
				t.Fatalf("%d of %+v: %+v, not %+v", i, l, way, vec.Scale(w, s, 2*time))
			}
		}
	}
}

// TestC4ByMotion: a pull does as much work on all middles as all joints bear on their
// ways.
func TestC4ByMotion(t *testing.T) {
	d := dice(9)
	for range 1500 {
		l, w, pull := d.tame(), &fx.Work{}, v(d.part(8*one), d.part(8*one), d.part(8*one))
		_, _, along := chain.Loads(w, l, pull)
		borne := 0
		for i, x := range l {
			borne += w.Mul(along[i], x.Speed)
		}
		work := vec.Dot(w, chain.Momentum(w, l), pull)
		if off := borne - work; max(off, -off) > 1<<13 || w.Bad {
			t.Fatalf("%+v pulled by %+v: %d, not %d", l, pull, borne, work)
		}
	}
}

// TestUnchanged: what is handed in is not written into, nor is what is behind its
// length, and it is not kept.
func TestUnchanged(t *testing.T) {
	for seed := range 500 {
		d, again := dice(seed), dice(seed)
		l, was := d.chain(), again.chain()
		pull := d.pull()
		l, was = slices.Concat(l, rope(2)), slices.Concat(was, rope(2))
		n := len(l) - 2
		a := ask(l[:n], pull, false)
		if !reflect.DeepEqual(l, was) {
			t.Fatalf("%+v, then %+v", was, l)
		}
		b := ask(was[:n], pull, false)
		for i := range l {
			l[i] = api.Link{Parent: 9, Mass: 9}
		}
		if !same(a, b) || !same(b, ask(was[:n], pull, false)) {
			t.Fatalf("%+v, then %+v", a, b)
		}
	}
}

// spoil writes into lists, and into their spare room.
func spoil(a *answers) {
	for _, l := range [][]api.Vec{a.middles, a.spins, a.speeds, a.forces, a.twists} {
		l = l[:cap(l)]
		for i := range l {
			l[i] = v(7, 7, 7)
		}
	}
	for i := range a.places[:cap(a.places)] {
		a.places[:cap(a.places)][i] = api.Pose{}
	}
	for i := range a.along[:cap(a.along)] {
		a.along[:cap(a.along)][i] = 7
	}
}

// TestNewMemory: each list is its owner's alone.
func TestNewMemory(t *testing.T) {
	for seed := range 500 {
		d := dice(seed)
		l, pull := d.chain(), d.vec(36)
		a, b := ask(l, pull, false), ask(l, pull, false)
		for _, x := range []*[]api.Vec{&a.middles, &a.spins, &a.speeds, &a.forces, &a.twists} { // one of them alone
			was := ask(l, pull, false)
			own := (*x)[:cap(*x)]
			kept := slices.Clone(own)
			for i := range own {
				own[i] = v(7, 7, 7)
			}
			*x = slices.Clone(kept[:len(*x)])
			if !same(a, was) {
				t.Fatalf("%+v, not %+v", a, was)
			}
		}
		want := ask(l, pull, false)
		spoil(&a)
		if !same(b, want) || !same(ask(l, pull, false), want) {
			t.Fatalf("%+v, not %+v", b, want)
		}
	}
}
