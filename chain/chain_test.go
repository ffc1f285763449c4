package chain_test

import (
	"math"
	"slices"
	"testing"

	"tumbler/api"
	"tumbler/chain"
	"tumbler/fx"
)

const (
	one  = api.One
	most = api.Most
)

// v is a vector, written shortly.
func v(x, y, z int) api.Vec { return api.Vec{X: x, Y: y, Z: z} }

func vecs(l ...api.Vec) []api.Vec { return l }

func partsOf(a *api.Vec) []*int { return []*int{&a.X, &a.Y, &a.Z} }

// link is one about Z that stands as its parent does; slide is one along Z.
func link(parent int, at, middle api.Vec) api.Link {
	return api.Link{Parent: parent, Axis: v(0, 0, one), At: at, Middle: middle, Mass: one}
}

func slide(parent int, at, middle api.Vec) api.Link {
	x := link(parent, at, middle)
	x.Slides = true
	return x
}

// with is a link, changed.
func with(x api.Link, change func(x *api.Link)) api.Link {
	change(&x)
	return x
}

// rope is so many links, each on the one ahead of it, an arm apart along X; every
// third one slides.
func rope(many int) []api.Link {
	var l []api.Link
	for i := range many {
		x := link(i-1, v(one, 0, 0), v(one, 0, 0))
		x.Slides = i%3 == 2
		l = append(l, x)
	}
	return l
}

// answers are those of all calls but Check; bad is whether the work of Loads is Bad,
// changed whether the flag of another call's work is not as it was: those never have
// anything too great to tell.
type answers struct {
	places         []api.Pose
	middles        []api.Vec
	spins, speeds  []api.Vec
	momentum       api.Vec
	forces, twists []api.Vec
	along          []int
	bad, changed   bool
}

// ask asks all, each call with a work of its own that was Bad ahead or not.
func ask(l []api.Link, pull api.Vec, was bool) answers {
	var a answers
	w := [5]fx.Work{{Bad: was}, {Bad: was}, {Bad: was}, {Bad: was}, {Bad: was}}
	a.places, a.middles = chain.Places(&w[0], l), chain.Middles(&w[1], l)
	a.spins, a.speeds = chain.Motion(&w[2], l)
	a.momentum = chain.Momentum(&w[3], l)
	a.forces, a.twists, a.along = chain.Loads(&w[4], l, pull)
	a.bad = w[4].Bad
	for _, x := range w[:4] {
		a.changed = a.changed || x.Bad != was
	}
	return a
}

// checkMay asks whether links may be a chain; of those that may not no call tells
// anything, and no work becomes Bad by that.
func checkMay(t *testing.T, name string, l []api.Link, may bool) {
	t.Helper()
	want := api.ErrChainForm
	if may {
		want = api.OK
	}
	if e := chain.Check(l); e != want {
		t.Errorf("%s: %+v: %d, not %d", name, l, e, want)
	}
	for _, was := range []bool{false, true} {
		a, many := ask(l, v(one, 2*one, 3*one), was), 0
		if may {
			many = len(l)
		}
		for _, n := range []int{len(a.places), len(a.middles), len(a.spins), len(a.speeds), len(a.forces), len(a.twists), len(a.along)} {
			if n != many {
				t.Errorf("%s: %+v: %d of %d: %+v", name, l, n, many, a)
				break
			}
		}
		if !may && a.momentum != v(0, 0, 0) || a.changed || a.bad != was {
			t.Errorf("%s: %+v: Bad ahead %v: %+v", name, l, was, a)
		}
	}
}

func TestC1HowMany(t *testing.T) {
	checkMay(t, "nothing", nil, true)
	checkMay(t, "none", []api.Link{}, true)
	for n := 1; n <= 12; n++ {
		checkMay(t, "some", rope(n), true)
	}
	for _, n := range []int{13, 14, 100} {
		checkMay(t, "too many", rope(n), false)
	}
	checkMay(t, "a link of noughts", []api.Link{{}}, false)
	checkMay(t, "one of noughts more", append(rope(3), api.Link{}), false)
}

func TestC1Parent(t *testing.T) {
	for place := range 12 {
		for parent := -3; parent <= 13; parent++ {
			l := rope(12)
			l[place].Parent = parent
			checkMay(t, "a parent", l, -1 <= parent && parent < place)
		}
		for _, parent := range []int{math.MinInt, math.MaxInt, most, -1 << 32, 1 << 32} {
			l := rope(12)
			l[place].Parent = parent
			checkMay(t, "no parent", l, false)
		}
	}
	checkMay(t, "on itself", []api.Link{link(0, v(0, 0, 0), v(0, 0, 0))}, false)
}

// TestC1Numbers: each number has its ends, in whatever place its link is.
func TestC1Numbers(t *testing.T) {
	angle := func(x *api.Link) []*int { return []*int{&x.Angle} }
	for _, c := range []struct {
		name        string
		slides      []bool
		of          func(x *api.Link) []*int
		least, most int
	}{
		{"At", []bool{false, true}, func(x *api.Link) []*int { return partsOf(&x.At) }, -1 << 36, 1 << 36},
		{"Middle", []bool{false, true}, func(x *api.Link) []*int { return partsOf(&x.Middle) }, -1 << 36, 1 << 36},
		{"Angle of what slides", []bool{true}, angle, -1 << 36, 1 << 36},
		{"Angle of what turns", []bool{false}, angle, -1 << 34, 1 << 34},
		{"Speed", []bool{false, true}, func(x *api.Link) []*int { return []*int{&x.Speed} }, -1 << 36, 1 << 36},
		{"Quicken", []bool{false, true}, func(x *api.Link) []*int { return []*int{&x.Quicken} }, -1 << 36, 1 << 36},
		{"Mass", []bool{false, true}, func(x *api.Link) []*int { return []*int{&x.Mass} }, 1 << 24, 1 << 40},
	} {
		for _, slides := range c.slides {
			for part := range c.of(&api.Link{}) {
				lay := func(n int, may bool) {
					for place := range 3 {
						l := rope(3)
						l[place].Slides = slides
						*c.of(&l[place])[part] = n
						checkMay(t, c.name, l, may)
					}
				}
				for _, n := range []int{c.least, c.least + 1, 1 << 30, c.most - 1, c.most} {
					lay(n, true)
				}
				for _, n := range []int{c.least - 1, c.most + 1, most, -most, most + 1, -most - 1, math.MinInt, math.MinInt + 1, math.MaxInt} {
					lay(n, false)
				}
				for _, n := range []int{0, 1, -1} {
					lay(n, c.least < 0)
				}
			}
		}
	}
}

// TestC1Axis: an axis is about as long as One, which is told down.
func TestC1Axis(t *testing.T) {
	for _, c := range []struct {
		axis api.Vec
		may  bool
	}{
		{v(one, 0, 0), true}, {v(0, -one, 0), true}, {v(0, 0, one-8), true}, {v(0, one+8, 0), true}, {v(-one-8, 0, 0), true}, {v(8-one, 0, 0), true},
		{v(one-9, 0, 0), false}, {v(0, one+9, 0), false}, {v(0, 0, -one-9), false}, {v(0, 9-one, 0), false},
		{v(3*one/5, 0, 4*one/5), true}, {v(0, -3*one/5, 4*one/5), true}, {v(one, one, 0), false}, {v(one/2, one/2, one/2), false},
		{v(one+8, 0, 92681), true}, {v(one+8, 92682, 0), false}, {v(one-9, 92682, 0), true}, {v(92681, one-9, 0), false},
		{v(0, 0, 0), false}, {v(one, 1, -1), true}, {v(most, 0, 0), false}, {v(most+1, 0, 0), false}, {v(one, math.MinInt, 0), false}, {v(0, 0, math.MaxInt), false}, {v(most, most, most), false},
	} {
		for place := range 3 {
			for _, slides := range []bool{false, true} {
				l := rope(3)
				l[place].Axis, l[place].Slides = c.axis, slides
				checkMay(t, "an axis", l, c.may)
			}
		}
	}
}

// told is what hangs, and what all calls must tell of it.
type told struct {
	name string
	l    []api.Link
	pull api.Vec
	want answers
}

// same is whether both tell the same; an empty list may be nil or not.
func same(a, b answers) bool {
	return slices.Equal(a.places, b.places) && slices.Equal(a.middles, b.middles) && slices.Equal(a.spins, b.spins) && slices.Equal(a.speeds, b.speeds) &&
		a.momentum == b.momentum && slices.Equal(a.forces, b.forces) && slices.Equal(a.twists, b.twists) && slices.Equal(a.along, b.along) &&
		a.bad == b.bad && a.changed == b.changed
}

// checkTold asks with works that are not Bad and with such that are: the answers are
// the same, the flag is never taken back.
func checkTold(t *testing.T, cases []told) {
	t.Helper()
	for _, c := range cases {
		if got := ask(c.l, c.pull, false); !same(got, c.want) {
			t.Errorf("%s: %+v, not %+v", c.name, got, c.want)
		}
		c.want.bad = true
		if got := ask(c.l, c.pull, true); !same(got, c.want) {
			t.Errorf("%s: Bad ahead: %+v, not %+v", c.name, got, c.want)
		}
	}
}
