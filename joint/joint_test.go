package joint_test

import (
	"math"
	"testing"

	"tumbler/api"
	"tumbler/joint"
)

const (
	one  = api.One
	most = api.Most
)

// v is a vector, written shortly.
func v(x, y, z int) api.Vec { return api.Vec{X: x, Y: y, Z: z} }

func partsOf(a *api.Vec) []*int { return []*int{&a.X, &a.Y, &a.Z} }

func kinds() []int { return []int{api.Rope, api.Socket, api.Hinge, api.Weld} }

// plain is a joint of a kind from middle to middle, about Z if it is a Hinge.
func plain(kind int) api.Joint {
	return api.Joint{Kind: kind, A: 1, B: 2, AxisA: v(0, 0, one), AxisB: v(0, 0, one)}
}

// with is a plain joint, changed.
func with(kind int, change func(j *api.Joint)) api.Joint {
	j := plain(kind)
	change(&j)
	return j
}

func checkIs(t *testing.T, name string, j api.Joint, may bool) {
	t.Helper()
	want := api.ErrJointForm
	if may {
		want = api.OK
	}
	if e := joint.Check(j); e != want {
		t.Errorf("%s: %+v: %d, not %d", name, j, e, want)
	}
}

func TestJ1Kind(t *testing.T) {
	for _, kind := range kinds() {
		checkIs(t, "a kind", plain(kind), true)
	}
	for _, kind := range []int{0, 5, -1, 6, math.MinInt, math.MaxInt} {
		checkIs(t, "no kind", plain(kind), false)
	}
	checkIs(t, "nothing", api.Joint{}, false)
}

func TestJ1Handles(t *testing.T) {
	for _, kind := range kinds() {
		for _, c := range []struct {
			a, b api.Handle
			may  bool
		}{
			{1, 2, true}, {2, 1, true}, {1, math.MaxInt, true}, {math.MaxInt, 1, true}, {1 << 40, 1<<40 + 1, true},
			{0, 1, false}, {1, 0, false}, {-1, 1, false}, {1, -1, false}, {math.MinInt, 1, false}, {1, math.MinInt, false},
			{1, 1, false}, {7, 7, false}, {0, 0, false}, {-1, -2, false}, {math.MaxInt, math.MaxInt, false},
		} {
			checkIs(t, "handles", with(kind, func(j *api.Joint) { j.A, j.B = c.a, c.b }), c.may)
		}
	}
}

// TestJ1Numbers: each number has its ends, of whatever kind the joint is.
func TestJ1Numbers(t *testing.T) {
	for _, c := range []struct {
		name        string
		of          func(j *api.Joint) []*int
		least, most int
	}{
		{"AtA", func(j *api.Joint) []*int { return partsOf(&j.AtA) }, -1 << 37, 1 << 37},
		{"AtB", func(j *api.Joint) []*int { return partsOf(&j.AtB) }, -1 << 37, 1 << 37},
		{"Long", func(j *api.Joint) []*int { return []*int{&j.Long} }, 0, 1 << 42},
		{"Motor", func(j *api.Joint) []*int { return []*int{&j.Motor} }, -1 << 36, 1 << 36},
		{"Force", func(j *api.Joint) []*int { return []*int{&j.Force} }, 0, 1 << 44},
	} {
		for _, kind := range kinds() {
			for part := range c.of(&api.Joint{}) {
				for _, n := range []int{0, 1, c.least, c.least + 1, c.most - 1, c.most} {
					checkIs(t, c.name, with(kind, func(j *api.Joint) { *c.of(j)[part] = n }), true)
				}
				for _, n := range []int{c.least - 1, c.most + 1, most + 1, -most - 1, math.MinInt, math.MinInt + 1, math.MaxInt} {
					checkIs(t, c.name, with(kind, func(j *api.Joint) { *c.of(j)[part] = n }), false)
				}
			}
		}
	}
}

// TestJ1Axes: a Hinge's axes are about as long as One, which is told down; those of
// others are nothing.
func TestJ1Axes(t *testing.T) {
	for _, c := range []struct {
		axis api.Vec
		may  bool
	}{
		{v(one, 0, 0), true}, {v(0, -one, 0), true}, {v(0, 0, one-8), true}, {v(0, one+8, 0), true}, {v(-one-8, 0, 0), true},
		{v(one-9, 0, 0), false}, {v(0, one+9, 0), false}, {v(0, 0, -one-9), false}, {v(0, 9-one, 0), false},
		{v(3*one/5, 0, 4*one/5), true}, {v(0, -3*one/5, 4*one/5), true}, {v(one, one, 0), false}, {v(one/2, one/2, one/2), false},
		{v(one+8, 0, 92681), true}, {v(one+8, 92682, 0), false}, {v(one-9, 92682, 0), true}, {v(92681, one-9, 0), false},
		{v(0, 0, 0), false}, {v(one, 1, -1), true}, {v(most, 0, 0), false}, {v(most+1, 0, 0), false}, {v(one, math.MinInt, 0), false}, {v(0, 0, math.MaxInt), false}, {v(most, most, most), false},
	} {
		for _, kind := range kinds() {
			may := c.may || kind != api.Hinge
			checkIs(t, "AxisA", with(kind, func(j *api.Joint) { j.AxisA = c.axis }), may)
			checkIs(t, "AxisB", with(kind, func(j *api.Joint) { j.AxisB = c.axis }), may)
			checkIs(t, "both axes", with(kind, func(j *api.Joint) { j.AxisA, j.AxisB = c.axis, c.axis }), may)
		}
	}
}
