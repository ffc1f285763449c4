package chain_test

import (
	"math"
	"slices"
	"testing"

	"tumbler/api"
	"tumbler/chain"
	"tumbler/fx"
)

func straight() api.Quat { return api.Quat{W: one} }

// still are poses that are not turned.
func still(at ...api.Vec) []api.Pose {
	var out []api.Pose
	for _, a := range at {
		out = append(out, api.Pose{At: a, Turn: straight()})
	}
	return out
}

func turning(angle int, x api.Link) api.Link {
	x.Angle = angle
	return x
}

func about(axis api.Vec, x api.Link) api.Link {
	x.Axis = axis
	return x
}

func fast(speed int, x api.Link) api.Link {
	x.Speed = speed
	return x
}

func heavy(mass int, x api.Link) api.Link {
	x.Mass = mass
	return x
}

func chainOf(l ...api.Link) []api.Link { return l }

// The axes, none, and a direction that is told down.
func ax() api.Vec     { return v(one, 0, 0) }
func ay() api.Vec     { return v(0, one, 0) }
func az() api.Vec     { return v(0, 0, one) }
func none() api.Vec   { return v(0, 0, 0) }
func askew() api.Vec  { return v(2576980377, 0, 3435973836) }
func steep() api.Vec  { return v(2479700524, 2479700524, 2479700524) }
func far() api.Vec    { return v(1<<36, 0, 0) }
func farOff() api.Vec { return v(-1<<36, 0, 0) }

// TestToldExactly holds all calls against numbers; those of what is bent were reckoned
// by another program.
func TestToldExactly(t *testing.T) {
	bent := chainOf(
		api.Link{Parent: -1, Axis: az(), At: v(one, 2*one, 3*one), Middle: v(one, 0, one), Angle: 3 * one / 4, Speed: one, Mass: 2 * one},
		api.Link{Parent: 0, Axis: askew(), At: ay(), Middle: v(0, -one, 0), Slides: true, Angle: 2 * one, Speed: -one, Mass: one},
		api.Link{Parent: 1, Axis: ax(), At: az(), Middle: v(one, one, one), Angle: -one / 2, Speed: 3 * one, Mass: one / 2},
		api.Link{Parent: 0, Axis: v(0, -one, 0), At: v(-one, 0, 0), Middle: v(3*one, 0, -one), Angle: one, Speed: -2 * one, Mass: 3 * one},
	)
	checkTold(t, []told{
		{"nothing", nil, v(one, math.MinInt, 0), answers{}},
		{"two in a row", chainOf(link(-1, ax(), none()), link(0, ax(), ax())), none(), answers{
			places: still(ax(), v(2*one, 0, 0)), middles: vecs(ax(), v(3*one, 0, 0)), spins: make([]api.Vec, 2), speeds: make([]api.Vec, 2),
			forces: make([]api.Vec, 2), twists: make([]api.Vec, 2), along: make([]int, 2),
		}},
		{"bent", bent, v(one, -10*one, 2*one), answers{
			places: []api.Pose{
				{At: v(4294967296, 8589934592, 12884901888), Turn: api.Quat{W: 3435973836, X: 0, Y: 0, Z: 2576980377}},
				{At: v(1614907705, 14740327757, 19756849560), Turn: api.Quat{W: 3435973836, X: 0, Y: 0, Z: 2576980377}},
				{At: v(1614907705, 14740327757, 24051816856), Turn: api.Quat{W: 3073228426, X: -1536614215, Y: -1152460661, Z: 2304921319}},
				{At: v(3092376451, 4466765990, 12884901888), Turn: api.Quat{W: 2429600399, X: 1822200300, Y: -2429600401, Z: 1822200299}},
			},
			middles:  vecs(v(5497558141, 12713103194, 17179869184), v(5738076308, 13537736912, 19756849560), v(-2954937492, 20547123541, 23192823392), v(4294967295, 8589934585, 25769803775)),
			spins:    vecs(v(0, 0, 4294967296), v(0, 0, 4294967296), v(3607772535, 12369505806, 4294967296), v(-8246337206, 2405181690, 4294967296)),
			speeds:   vecs(v(-4123168602, 1202590845, 0), v(-5669356826, -1030792148, -3435973836), v(-15152644631, -9002251437, 14602888791), v(7215545076, 24739011615, -8589934575)),
			momentum: v(154618882, 71090298668, -21904333166),
			forces:   vecs(v(27917287424, -279172874240, 55834574848), v(6442450944, -64424509440, 12884901888), v(2147483648, -21474836480, 4294967296), v(12884901888, -128849018880, 25769803776)),
			twists:   vecs(v(631050954725, 58823872067, -21406117028), v(20581483254, -1958505093, -20083267092), v(1511828464, 4140348465, 19945828093), v(411286068180, 31439160597, -48447231105)),
			along:    []int{-21406117028, -25718264133, 4398046494, 386031660359},
		}},
	})
}

// standing is what hangs, and where it must stand.
type standing struct {
	name    string
	l       []api.Link
	places  []api.Pose
	middles []api.Vec
}

// checkStanding asks with works that were Bad ahead and such that were not: none
// becomes Bad.
func checkStanding(t *testing.T, cases []standing) {
	t.Helper()
	for _, c := range cases {
		for _, was := range []bool{false, true} {
			w := &fx.Work{Bad: was}
			if p, m := chain.Places(w, c.l), chain.Middles(w, c.l); !slices.Equal(p, c.places) || !slices.Equal(m, c.middles) || w.Bad != was {
				t.Errorf("%s: Bad %v, then %v: %+v and %+v, not %+v and %+v", c.name, was, w.Bad, p, m, c.places, c.middles)
			}
		}
	}
}

// TestC2Slides: what is not turned is told exactly.
func TestC2Slides(t *testing.T) {
	x2, y3 := v(2*one, 0, 0), v(0, 3*one, 0)
	checkStanding(t, []standing{
		{"alone", chainOf(link(-1, x2, y3)), still(x2), vecs(v(2*one, 3*one, 0))},
		{"moved", chainOf(turning(5*one, slide(-1, x2, y3))), still(v(2*one, 0, 5*one)), vecs(v(2*one, 3*one, 5*one))},
		{"moved back", chainOf(turning(-5, slide(-1, x2, y3))), still(v(2*one, 0, -5)), vecs(v(2*one, 3*one, -5))},
		{"not moved", chainOf(turning(0, slide(-1, x2, y3))), still(x2), vecs(v(2*one, 3*one, 0))},
		{"along another axis", chainOf(turning(one, about(ay(), slide(-1, x2, y3)))), still(v(2*one, one, 0)), vecs(v(2*one, 4*one, 0))},
		{"askew", chainOf(turning(5*one, about(askew(), slide(-1, none(), x2)))), still(v(12884901885, 0, 17179869180)), vecs(v(12884901885+2*one, 0, 17179869180))},
		{"askew, down", chainOf(turning(-1, about(askew(), slide(-1, none(), none())))), still(v(-1, 0, -1)), vecs(v(-1, 0, -1))},
		{"askew, down to nought", chainOf(turning(1, about(askew(), slide(-1, ax(), none())))), still(ax()), vecs(ax())},
		{"as far as may be", chainOf(turning(1<<36, about(ax(), slide(-1, far(), far()))), turning(1<<36, about(ax(), slide(0, far(), far())))),
			still(v(2<<36, 0, 0), v(4<<36, 0, 0)), vecs(v(3<<36, 0, 0), v(5<<36, 0, 0))},
		{"a row", chainOf(turning(one, slide(-1, x2, ax())), turning(2*one, slide(0, y3, ay())), link(1, az(), az())),
			still(v(2*one, 0, one), v(2*one, 3*one, 3*one), v(2*one, 3*one, 4*one)), vecs(v(3*one, 0, one), v(2*one, 4*one, 3*one), v(2*one, 3*one, 5*one))},
		{"two on the ground", chainOf(turning(one, slide(-1, x2, none())), link(-1, y3, ax())), still(v(2*one, 0, one), y3), vecs(v(2*one, 0, one), v(one, 3*one, 0))},
		{"a tree", chainOf(turning(one, slide(-1, x2, none())), turning(7, slide(0, y3, none())), turning(-7, slide(0, ax(), none())), link(1, ax(), ay())),
			still(v(2*one, 0, one), v(2*one, 3*one, one+7), v(3*one, 0, one-7), v(3*one, 3*one, one+7)),
			vecs(v(2*one, 0, one), v(2*one, 3*one, one+7), v(3*one, 0, one-7), v(3*one, 4*one, one+7))},
	})
}

// TestC2Angle: an Angle is half the angle's tangent, told down.
func TestC2Angle(t *testing.T) {
	turned := func(q api.Quat) []api.Pose { return []api.Pose{{At: ax(), Turn: q}} }
	for _, c := range []struct {
		name  string
		angle int
		axis  api.Vec
		turn  api.Quat
	}{
		{"none", 0, az(), straight()},
		{"none askew", 0, askew(), straight()},
		{"the least", 1, az(), api.Quat{W: one, Z: 1}},
		{"the least back", -1, az(), api.Quat{W: one, Z: -1}},
		{"the least askew", 1, askew(), straight()},
		{"the least back askew", -1, askew(), api.Quat{W: one, X: -1, Z: -1}},
		{"a quarter", one, ax(), api.Quat{W: 3037000500, X: 3037000500}},
		{"a quarter back", -one, ay(), api.Quat{W: 3037000500, Y: -3037000501}},
		{"fifths", 3 * one / 4, az(), api.Quat{W: 3435973836, Z: 2576980377}},
		{"fifths back", -3 * one / 4, az(), api.Quat{W: 3435973836, Z: -2576980378}},
		{"as far as may be", 1 << 34, ay(), api.Quat{W: 1041682577, Y: 4166730310}},
		{"as far back as may be", -1 << 34, ay(), api.Quat{W: 1041682577, Y: -4166730311}},
	} {
		l := chainOf(turning(c.angle, about(c.axis, link(-1, ax(), none()))))
		checkStanding(t, []standing{{c.name, l, turned(c.turn), vecs(ax())}})
	}
}

// near is whether two places are the same, but for few in the last place.
func near(a, b api.Vec) bool {
	d := func(x, y int) int { return max(x-y, y-x) }
	return max(d(a.X, b.X), d(a.Y, b.Y), d(a.Z, b.Z)) <= 64
}

// TestC2Turned: a link turns what hangs on it, about an axis that its parent turns.
func TestC2Turned(t *testing.T) {
	quarter := func(axis api.Vec, parent int, at api.Vec) api.Link {
		return turning(one, about(axis, link(parent, at, none())))
	}
	end := func(parent int, at api.Vec) api.Link { return link(parent, at, at) }
	for _, c := range []struct {
		name       string
		l          []api.Link
		at, middle api.Vec
	}{
		{"about Z, X to Y", chainOf(quarter(az(), -1, none()), end(0, ax())), ay(), v(0, 2*one, 0)},
		{"about Z, Y to -X", chainOf(quarter(az(), -1, none()), end(0, ay())), v(-one, 0, 0), v(-2*one, 0, 0)},
		{"about X, Y to Z", chainOf(quarter(ax(), -1, none()), end(0, ay())), az(), v(0, 0, 2*one)},
		{"about Y, Z to X", chainOf(quarter(ay(), -1, none()), end(0, az())), ax(), v(2*one, 0, 0)},
		{"about its own axis", chainOf(quarter(az(), -1, none()), end(0, az())), az(), v(0, 0, 2*one)},
		{"the other way", chainOf(turning(-one, link(-1, none(), none())), end(0, ax())), v(0, -one, 0), v(0, -2*one, 0)},
		{"about an axis the other way", chainOf(quarter(v(0, 0, -one), -1, none()), end(0, ax())), v(0, -one, 0), v(0, -2*one, 0)},
		{"from where it is", chainOf(quarter(az(), -1, v(5*one, 6*one, 7*one)), end(0, ax())), v(5*one, 7*one, 7*one), v(5*one, 8*one, 7*one)},
		{"twice", chainOf(quarter(az(), -1, none()), quarter(az(), 0, ax()), end(1, ax())), v(-one, one, 0), v(-2*one, one, 0)},
		{"about Z, and then its own X", chainOf(quarter(az(), -1, none()), quarter(ax(), 0, none()), end(1, ay())), az(), v(0, 0, 2*one)},
		{"about X, and then its own Z", chainOf(quarter(ax(), -1, none()), quarter(az(), 0, none()), end(1, ax())), az(), v(0, 0, 2*one)},
		{"its own turn turns its middle", chainOf(turning(one, link(-1, ax(), ax()))), ax(), v(one, one, 0)},
		{"its own turn leaves its place", chainOf(quarter(az(), -1, none()), turning(one, link(0, ax(), ax()))), ay(), v(-one, one, 0)},
		{"a slide goes along an axis that is turned", chainOf(quarter(az(), -1, none()), turning(3*one, about(ax(), slide(0, az(), ax())))), v(0, 3*one, one), v(0, 4*one, one)},
		{"a slide is turned as its parent is", chainOf(quarter(az(), -1, none()), turning(one, slide(0, none(), none())), end(1, ax())), v(0, one, one), v(0, 2*one, one)},
		{"its brother turns nothing of it", chainOf(link(-1, ax(), none()), quarter(az(), 0, none()), end(0, ax())), v(2*one, 0, 0), v(3*one, 0, 0)},
	} {
		w := &fx.Work{}
		last := len(c.l) - 1
		if p, m := chain.Places(w, c.l), chain.Middles(w, c.l); !near(p[last].At, c.at) || !near(m[last], c.middle) || w.Bad {
			t.Errorf("%s: %+v and %+v, not %+v and %+v", c.name, p, m, c.at, c.middle)
		}
	}
}

// moving is what hangs, and how it must move.
type moving struct {
	name          string
	l             []api.Link
	spins, speeds []api.Vec
	momentum      api.Vec
}

func TestC3(t *testing.T) {
	x, y, z, o := ax(), ay(), az(), none()
	y2, y3 := v(0, 2*one, 0), v(0, 3*one, 0)
	arm := func(a, b int) []api.Link { return chainOf(fast(a, link(-1, x, x)), fast(b, link(0, x, x))) }
	cases := []moving{
		{"nothing moves", arm(0, 0), vecs(o, o), vecs(o, o), o},
		{"the first one turns", arm(one, 0), vecs(z, z), vecs(y, y2), y3},
		{"the last one turns", arm(0, one), vecs(o, z), vecs(o, y), y},
		{"both turn", arm(one, one), vecs(z, v(0, 0, 2*one)), vecs(y, y3), v(0, 4*one, 0)},
		{"one back", arm(-one, one), vecs(v(0, 0, -one), o), vecs(v(0, -one, 0), v(0, -one, 0)), v(0, -2*one, 0)},
		{"about X", chainOf(fast(one, about(x, link(-1, o, y)))), vecs(x), vecs(z), z},
		{"about Y", chainOf(fast(one, about(y, link(-1, o, z)))), vecs(y), vecs(x), x},
		{"askew", chainOf(fast(one, about(askew(), link(-1, o, y)))), vecs(askew()), vecs(v(-3435973836, 0, 2576980377)), v(-3435973836, 0, 2576980377)},
		{"hardly, down", chainOf(fast(-1, about(askew(), link(-1, o, o)))), vecs(v(-1, 0, -1)), vecs(o), o},
		{"it slides", chainOf(fast(5, slide(-1, x, x))), vecs(o), vecs(v(0, 0, 5)), v(0, 0, 5)},
		{"it slides askew, down", chainOf(fast(-1, about(askew(), slide(-1, x, x)))), vecs(o), vecs(v(-1, 0, -1)), v(-1, 0, -1)},
		{"on a slide", chainOf(fast(one, slide(-1, x, x)), fast(one, link(0, x, x))), vecs(o, z), vecs(z, v(0, one, one)), v(0, one, 2*one)},
		{"a slide on what turns", chainOf(fast(one, link(-1, x, x)), fast(5, slide(0, x, x))), vecs(z, z), vecs(y, v(0, 2*one, 5)), v(0, 3*one, 5)},
		{"a slide far out on what turns", chainOf(fast(one, link(-1, x, o)), fast(one, turning(2*one, about(x, slide(0, o, x))))), vecs(z, z), vecs(o, v(one, 3*one, 0)), v(one, 3*one, 0)},
		{"slides on slides", chainOf(fast(one, slide(-1, x, x)), fast(one, about(y, slide(0, x, x))), fast(one, about(x, slide(1, x, x)))),
			vecs(o, o, o), vecs(z, v(0, one, one), v(one, one, one)), v(one, 2*one, 3*one)},
		{"from the joint, not the middle", chainOf(fast(one, link(-1, x, v(0, 7*one, 0))), link(0, x, x)), vecs(z, z), vecs(v(-7*one, 0, 0), y2), v(-7*one, 2*one, 0)},
		{"the ground's place is nothing", chainOf(fast(one, link(-1, v(9*one, 8*one, 7*one), o))), vecs(z), vecs(o), o},
		{"two on the ground", chainOf(fast(one, link(-1, x, x)), fast(-one, link(-1, y, x))), vecs(z, v(0, 0, -one)), vecs(y, v(0, -one, 0)), o},
		{"brothers", chainOf(fast(one, link(-1, o, x)), fast(one, link(0, x, x)), fast(one, about(y, slide(0, x, x)))),
			vecs(z, v(0, 0, 2*one), z), vecs(y, y3, y3), v(0, 7*one, 0)},
		{"on the second one of two", chainOf(fast(one, link(-1, o, o)), fast(one, about(y, slide(-1, o, o))), fast(one, link(1, x, x))), vecs(z, o, z), vecs(o, y, y2), y3},
		{"masses", chainOf(heavy(2*one, fast(one, slide(-1, x, x))), heavy(one/2, fast(one, about(y, slide(0, x, x))))), vecs(o, o), vecs(z, v(0, one, one)), v(0, one/2, 2*one+one/2)},
		{"each alone is told down", chainOf(heavy(one/2, fast(-1, slide(-1, x, x))), heavy(one/2, slide(0, x, x))), vecs(o, o), vecs(v(0, 0, -1), v(0, 0, -1)), v(0, 0, -2)},
		{"each alone is told down to nought", chainOf(heavy(one/2, fast(1, slide(-1, x, x))), heavy(one/2, slide(0, x, x))), vecs(o, o), vecs(v(0, 0, 1), v(0, 0, 1)), o},
		{"as fast as may be", chainOf(heavy(1<<40, fast(1<<36, link(-1, o, far()))), heavy(1<<40, fast(1<<36, link(0, far(), far())))),
			vecs(v(0, 0, 1<<36), v(0, 0, 1<<37)), vecs(v(0, 1<<40, 0), v(0, 3<<40, 0)), v(0, 4<<48, 0)},
	}
	for _, c := range cases {
		for _, was := range []bool{false, true} {
			w := &fx.Work{Bad: was}
			s, m := chain.Motion(w, c.l)
			if p := chain.Momentum(w, c.l); !slices.Equal(s, c.spins) || !slices.Equal(m, c.speeds) || p != c.momentum || w.Bad != was {
				t.Errorf("%s: Bad %v, then %v: %+v, %+v, %+v, not %+v, %+v, %+v", c.name, was, w.Bad, s, m, p, c.spins, c.speeds, c.momentum)
			}
		}
	}
}

// TestC3Turned: axes and places move with what they hang on.
func TestC3Turned(t *testing.T) {
	quarter := turning(one, link(-1, none(), ax()))
	for _, c := range []struct {
		name        string
		l           []api.Link
		spin, speed api.Vec
	}{
		{"its middle is turned", chainOf(fast(one, quarter)), az(), v(-one, 0, 0)},
		{"its axis is turned", chainOf(quarter, fast(one, about(ax(), link(0, none(), az())))), ay(), ax()},
		{"its place is turned", chainOf(fast(one, quarter), link(0, ax(), none())), az(), v(-one, 0, 0)},
		{"its own turn turns its axis no more", chainOf(turning(one, fast(one, about(ax(), link(-1, none(), ay()))))), ax(), v(0, -one, 0)},
		{"a slide goes along an axis that is turned", chainOf(quarter, fast(one, about(ax(), slide(0, none(), none())))), none(), ay()},
		{"a slide on what turns", chainOf(fast(one, quarter), fast(one, about(ax(), slide(0, ax(), none())))), az(), v(-one, one, 0)},
	} {
		w := &fx.Work{}
		last := len(c.l) - 1
		if s, m := chain.Motion(w, c.l); !near(s[last], c.spin) || !near(m[last], c.speed) || w.Bad {
			t.Errorf("%s: %+v and %+v, not %+v and %+v", c.name, s, m, c.spin, c.speed)
		}
	}
}

// loaded is what hangs, and what a pull must lay on it.
type loaded struct {
	name           string
	l              []api.Link
	pull           api.Vec
	forces, twists []api.Vec
	along          []int
	bad            bool
}

func checkLoads(t *testing.T, cases []loaded) {
	t.Helper()
	for _, c := range cases {
		for _, was := range []bool{false, true} {
			w := &fx.Work{Bad: was}
			if f, s, n := chain.Loads(w, c.l, c.pull); !slices.Equal(f, c.forces) || !slices.Equal(s, c.twists) || !slices.Equal(n, c.along) || w.Bad != (was || c.bad) {
				t.Errorf("%s: Bad %v, then %v: %+v, %+v, %+v, not %+v, %+v, %+v", c.name, was, w.Bad, f, s, n, c.forces, c.twists, c.along)
			}
		}
	}
}

func TestC4(t *testing.T) {
	x, y, z, o := ax(), ay(), az(), none()
	down := v(0, -10*one, 0)
	at := func(n int) api.Vec { return v(0, 0, n*one) }
	checkLoads(t, []loaded{
		{"no pull", chainOf(link(-1, x, x), link(0, x, x)), o, vecs(o, o), vecs(o, o), []int{0, 0}, false},
		{"alone", chainOf(link(-1, x, x)), down, vecs(down), vecs(at(-10)), []int{-10 * one}, false},
		{"a row", chainOf(link(-1, x, x), link(0, x, x)), down, vecs(v(0, -20*one, 0), down), vecs(at(-30), at(-10)), []int{-30 * one, -10 * one}, false},
		{"of three", chainOf(link(-1, x, o), link(0, x, o), link(1, x, o)), down, vecs(v(0, -30*one, 0), v(0, -20*one, 0), down), vecs(at(-30), at(-10), o), []int{-30 * one, -10 * one, 0}, false},
		{"across its axis", chainOf(about(x, link(-1, x, x))), down, vecs(down), vecs(at(-10)), []int{0}, false},
		{"a slide across it", chainOf(slide(-1, x, x)), down, vecs(down), vecs(at(-10)), []int{0}, false},
		{"a slide along it", chainOf(about(y, slide(-1, x, x))), down, vecs(down), vecs(at(-10)), []int{-10 * one}, false},
		{"a slide against it", chainOf(about(v(0, -one, 0), slide(-1, x, o))), down, vecs(down), vecs(o), []int{10 * one}, false},
		{"a slide bears what hangs on it", chainOf(about(y, slide(-1, x, x)), link(0, x, x)), down, vecs(v(0, -20*one, 0), down), vecs(at(-30), at(-10)), []int{-20 * one, -10 * one}, false},
		{"a slide far out", chainOf(link(-1, x, o), turning(2*one, about(x, slide(0, x, x)))), down, vecs(v(0, -20*one, 0), down), vecs(at(-40), at(-10)), []int{-40 * one, 0}, false},
		{"brothers", chainOf(link(-1, o, o), link(0, x, x), link(0, v(-one, 0, 0), o)), down, vecs(v(0, -30*one, 0), down, down), vecs(at(-10), at(-10), o), []int{-10 * one, -10 * one, 0}, false},
		{"two on the ground", chainOf(link(-1, x, x), link(-1, x, v(-one, 0, 0))), down, vecs(down, down), vecs(at(-10), at(10)), []int{-10 * one, 10 * one}, false},
		{"the second one bears", chainOf(link(-1, x, x), link(-1, o, o), link(1, x, x)), down, vecs(down, v(0, -20*one, 0), down), vecs(at(-10), at(-20), at(-10)), []int{-10 * one, -20 * one, -10 * one}, false},
		{"masses", chainOf(heavy(2*one, link(-1, x, x)), heavy(one/2, link(0, x, x))), down, vecs(v(0, -25*one, 0), v(0, -5*one, 0)), vecs(at(-30), at(-5)), []int{-30 * one, -5 * one}, false},
		{"each alone is told down", chainOf(heavy(one/2, link(-1, x, x)), heavy(one/2, link(0, x, x))), v(0, -1, 0), vecs(v(0, -2, 0), v(0, -1, 0)), vecs(v(0, 0, -3), v(0, 0, -1)), []int{-3, -1}, false},
		{"each alone is told down to nought", chainOf(heavy(one/2, link(-1, x, x)), heavy(one/2, link(0, x, x))), v(0, 1, 0), vecs(o, o), vecs(o, o), []int{0, 0}, false},
		{"along X", chainOf(about(y, link(-1, o, z))), v(one, 0, 0), vecs(x), vecs(y), []int{one}, false},
		{"along Z", chainOf(about(x, link(-1, o, y))), v(0, 0, one), vecs(z), vecs(x), []int{one}, false},
		{"askew", chainOf(about(askew(), slide(-1, o, o))), v(5, 0, 0), vecs(v(5, 0, 0)), vecs(o), []int{2}, false},
		{"askew, down", chainOf(about(askew(), slide(-1, o, o))), v(-5, 0, 0), vecs(v(-5, 0, 0)), vecs(o), []int{-3}, false},
		{"all is one sum, down", chainOf(about(askew(), slide(-1, o, o))), v(1, 0, 1), vecs(v(1, 0, 1)), vecs(o), []int{1}, false},
	})
}

// TestC4TooGreat: where something can't be told, nothing is told.
func TestC4TooGreat(t *testing.T) {
	o := none()
	alone := chainOf(link(-1, o, o))
	fits := func(name string, l []api.Link, pull api.Vec) loaded {
		return loaded{name, l, pull, vecs(pull), vecs(o), []int{0}, false}
	}
	bad := func(name string, l []api.Link, pull api.Vec) loaded {
		return loaded{name: name, l: l, pull: pull, bad: true}
	}
	cases := []loaded{
		fits("the greatest pull", alone, v(most, -most, most)),
		{name: "no chain is pulled", pull: v(most+1, math.MinInt, 0)},
		bad("two at the greatest pull", chainOf(link(-1, o, o), link(0, o, o)), v(most, 0, 0)),
		bad("one mass too much", chainOf(heavy(one+4, link(-1, o, o))), v(0, most, 0)),
		bad("a mass as great as may be", chainOf(heavy(1<<40, link(-1, o, o))), v(0, 0, -1<<54)),
		{"along it is too much", chainOf(about(steep(), slide(-1, o, o))), v(most, most, most), nil, nil, nil, true},
		{"along it is not asked", chainOf(about(steep(), link(-1, o, o))), v(most, most, most), vecs(v(most, most, most)), vecs(o), []int{0}, false},
		bad("about it is too much", chainOf(about(steep(), link(-1, o, v(1<<36, -1<<36, 0)))), v(15<<53, 15<<53, -15<<54)),
		{"about it is not asked", chainOf(about(steep(), slide(-1, o, v(1<<36, -1<<36, 0)))), v(15<<53, 15<<53, -15<<54),
			vecs(v(15<<53, 15<<53, -15<<54)), vecs(v(15<<58, 15<<58, 15<<58)), []int{0}, false},
		{"it turns as much as may be", chainOf(link(-1, o, far())), v(0, 1<<57, 0), vecs(v(0, 1<<57, 0)), vecs(v(0, 0, 1<<61)), []int{1 << 61}, false},
		bad("it turns too much", chainOf(link(-1, o, far())), v(0, 1<<58, 0)),
		bad("a slide would turn too much", chainOf(slide(-1, o, far())), v(0, 1<<58, 0)),
		bad("the last one is too much", chainOf(link(-1, o, o), link(-1, o, far())), v(0, 1<<58, 0)),
		bad("what hangs on it turns it too much", chainOf(link(-1, o, o), link(0, far(), o)), v(0, 1<<58, 0)),
	}
	for _, n := range []int{most + 1, -most - 1, math.MinInt, math.MaxInt} {
		cases = append(cases, bad("a great X", alone, v(n, 0, 0)), bad("a great Y", alone, v(0, n, 0)), bad("a great Z", alone, v(0, 0, n)))
	}
	checkLoads(t, cases)
}

// TestC4Order: what is too great in between is too great. Each arm turns by 2^61 one
// way or the other; twice that is too much.
func TestC4Order(t *testing.T) {
	const b = 1 << 61
	pull := v(0, 1<<57, 0)
	force := func(n int) api.Vec { return v(0, n<<57, 0) }
	twist := func(n int) api.Vec { return v(0, 0, n) }
	fits := func(name string, l []api.Link, forces, twists []api.Vec) loaded {
		var along []int
		for _, s := range twists {
			along = append(along, s.Z)
		}
		return loaded{name, l, pull, forces, twists, along, false}
	}
	bad := func(name string, l ...api.Link) loaded { return loaded{name: name, l: l, pull: pull, bad: true} }
	o, here, there := none(), far(), farOff()
	checkLoads(t, []loaded{
		fits("by rising places", chainOf(link(-1, o, o), link(0, here, o), link(0, there, o), link(0, there, o)),
			vecs(force(4), force(1), force(1), force(1)), vecs(twist(-b), o, o, o)),
		bad("not by falling ones", link(-1, o, o), link(0, here, o), link(0, here, o), link(0, there, o)),
		fits("its own ahead, its child's, and then its arm's", chainOf(link(-1, o, here), link(0, there, there)), vecs(force(2), force(1)), vecs(twist(-b), twist(-b))),
		fits("its child's ahead of its arm's", chainOf(link(-1, o, here), link(0, here, there)), vecs(force(2), force(1)), vecs(twist(b), twist(-b))),
		bad("its arm's behind its child's", link(-1, o, here), link(0, there, here)),
		fits("child by child", chainOf(link(-1, o, o), link(0, there, here), link(0, there, here)), vecs(force(3), force(1), force(1)), vecs(o, twist(b), twist(b))),
	})
}

// TestC4Turned: arms and axes are as they stand.
func TestC4Turned(t *testing.T) {
	quarter := turning(one, link(-1, none(), none()))
	down := v(0, -one, 0)
	for _, c := range []struct {
		name   string
		l      []api.Link
		twists []api.Vec
		along  []int
	}{
		{"its middle is turned", chainOf(turning(one, link(-1, none(), ay()))), vecs(az()), []int{one}},
		{"what hangs on it is turned", chainOf(quarter, link(0, ay(), none())), vecs(az(), none()), []int{one, 0}},
		{"its axis is turned", chainOf(quarter, about(ax(), slide(0, none(), none()))), vecs(none(), none()), []int{0, -one}},
		{"its own turn turns its axis no more", chainOf(turning(one, about(ax(), link(-1, none(), ay()))), link(0, none(), ay())), vecs(v(2*one, 0, 0), ax()), []int{2 * one, 0}},
	} {
		w := &fx.Work{}
		_, s, n := chain.Loads(w, c.l, down)
		for i := range c.l {
			if !near(s[i], c.twists[i]) || !near(v(n[i], 0, 0), v(c.along[i], 0, 0)) || w.Bad {
				t.Errorf("%s: %+v and %+v, not %+v and %+v", c.name, s, n, c.twists, c.along)
			}
		}
	}
}
