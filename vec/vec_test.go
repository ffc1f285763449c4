package vec_test

import (
	"math"
	"testing"

	"tumbler/api"
	"tumbler/fx"
	"tumbler/vec"
)

const (
	one  = api.One
	most = api.Most
)

// v and q are vectors and turns, written shortly.
func v(x, y, z int) api.Vec { return api.Vec{X: x, Y: y, Z: z} }

func q(w, x, y, z int) api.Quat { return api.Quat{W: w, X: x, Y: y, Z: z} }

// call is one call on a work, with what it must tell, and whether it makes the
// work Bad.
type call struct {
	name string
	do   func(w *fx.Work) any
	want any
	bad  bool
}

func add(a, b, want api.Vec) call {
	return call{"Add", func(w *fx.Work) any { return vec.Add(w, a, b) }, want, false}
}

func sub(a, b, want api.Vec) call {
	return call{"Sub", func(w *fx.Work) any { return vec.Sub(w, a, b) }, want, false}
}

func scale(a api.Vec, n int, want api.Vec) call {
	return call{"Scale", func(w *fx.Work) any { return vec.Scale(w, a, n) }, want, false}
}

func dot(a, b api.Vec, want int) call {
	return call{"Dot", func(w *fx.Work) any { return vec.Dot(w, a, b) }, want, false}
}

func cross(a, b, want api.Vec) call {
	return call{"Cross", func(w *fx.Work) any { return vec.Cross(w, a, b) }, want, false}
}

func length(a api.Vec, want int) call {
	return call{"Len", func(w *fx.Work) any { return vec.Len(w, a) }, want, false}
}

func unit(a, want api.Vec) call {
	return call{"Unit", func(w *fx.Work) any { return vec.Unit(w, a) }, want, false}
}

func times(a, b, want api.Quat) call {
	return call{"Times", func(w *fx.Work) any { return vec.Times(w, a, b) }, want, false}
}

func whole(a, want api.Quat) call {
	return call{"Whole", func(w *fx.Work) any { return vec.Whole(w, a) }, want, false}
}

func rows(a api.Quat, want api.Mat) call {
	return call{"Rows", func(w *fx.Work) any { return vec.Rows(w, a) }, want, false}
}

func turn(m api.Mat, a, want api.Vec) call {
	return call{"Turn", func(w *fx.Work) any { return vec.Turn(w, m, a) }, want, false}
}

func back(m api.Mat, a, want api.Vec) call {
	return call{"Back", func(w *fx.Work) any { return vec.Back(w, m, a) }, want, false}
}

func spin(a api.Quat, half api.Vec, want api.Quat) call {
	return call{"Spin", func(w *fx.Work) any { return vec.Spin(w, a, half) }, want, false}
}

// refused is a call that must make the work Bad; its want must be noughts.
func refused(c call) call {
	c.bad = true
	return c
}

// check does each call on a work that is not Bad and on one that is: the
// answer must be the same, and the flag is never taken back.
func check(t *testing.T, calls []call) {
	t.Helper()
	for i, c := range calls {
		for _, ahead := range []bool{false, true} {
			w := &fx.Work{Bad: ahead}
			if got := c.do(w); got != c.want || w.Bad != (ahead || c.bad) {
				t.Errorf("%d: %s, Bad ahead %v: %v, Bad %v; not %v, Bad %v", i, c.name, ahead, got, w.Bad, c.want, ahead || c.bad)
			}
		}
	}
}

func TestV1Sums(t *testing.T) {
	check(t, []call{
		add(v(1, 2, 3), v(40, 50, 60), v(41, 52, 63)),
		add(v(1, 2, 3), v(-1, -3, 0), v(0, -1, 3)),
		add(v(most, -most, 0), v(0, 0, most), v(most, -most, most)),
		add(v(most, -most, most-1), v(-most, most, 1), v(0, 0, most)),
		refused(add(v(most, 1, 1), v(1, 1, 1), v(0, 0, 0))),
		refused(add(v(1, -most, 1), v(1, -1, 1), v(0, 0, 0))),
		refused(add(v(1, 1, most), v(1, 1, most), v(0, 0, 0))),
		refused(add(v(most+1, 1, 1), v(-5, 1, 1), v(0, 0, 0))),
		refused(add(v(1, 1, 1), v(1, math.MinInt, 1), v(0, 0, 0))),
		sub(v(1, 2, 3), v(40, 50, 60), v(-39, -48, -57)),
		sub(v(most, -most, 0), v(most, -most, most), v(0, 0, -most)),
		refused(sub(v(most, 1, 1), v(-1, 1, 1), v(0, 0, 0))),
		refused(sub(v(1, -most, 1), v(1, 1, 1), v(0, 0, 0))),
		refused(sub(v(1, 1, -most), v(1, 1, most), v(0, 0, 0))),
		refused(sub(v(1, 1, 1), v(1, 1, math.MaxInt), v(0, 0, 0))),
	})
}

func TestV1Scale(t *testing.T) {
	check(t, []call{
		scale(v(one, 2*one, -3*one), 2*one, v(2*one, 4*one, -6*one)),
		scale(v(1, -1, 3), one/2, v(0, -1, 1)),
		scale(v(1, -1, 0), -1, v(-1, 0, 0)),
		scale(v(most, -most, 7), one, v(most, -most, 7)),
		scale(v(most, -most, 7), -one, v(-most, most, -7)),
		scale(v(most, -most, 7), 0, v(0, 0, 0)),
		scale(v(0, 0, 0), most, v(0, 0, 0)),
		refused(scale(v(most, 1, 1), one+4, v(0, 0, 0))),
		refused(scale(v(1, 1, -most), one+4, v(0, 0, 0))),
		refused(scale(v(0, 0, 0), most+1, v(0, 0, 0))),
		refused(scale(v(0, -most-1, 0), 0, v(0, 0, 0))),
	})
}

func TestV1DotAndLen(t *testing.T) {
	check(t, []call{
		dot(v(one, 2*one, 3*one), v(5, -7, 11), 24),
		// Down once, behind the sum: three thirds that are rounded each would be -3.
		dot(v(1, 1, 1), v(-1, -1, -1), -1),
		dot(v(one/3, one/3, one/3), v(1, 1, 2), 1),
		dot(v(most, most, 0), v(most, -most, 0), 0),
		dot(v(most, 0, 0), v(one, 0, 0), most),
		dot(v(0, 0, 0), v(most, -most, most), 0),
		refused(dot(v(most, 1, 0), v(one, one, 0), 0)),
		refused(dot(v(most, most, most), v(most, most, -most), 0)),
		refused(dot(v(0, 0, 0), v(0, 0, most+1), 0)),
		refused(dot(v(0, -most-1, 0), v(0, 0, 0), 0)),
		length(v(2, 3, 6), 7),
		length(v(-2, -3, -6), 7),
		length(v(1, 1, 1), 1),
		length(v(0, 0, 0), 0),
		length(v(0, -most, 0), most),
		refused(length(v(most, most, 0), 0)),
		refused(length(v(0, 0, math.MinInt), 0)),
	})
}

func TestV1Cross(t *testing.T) {
	x, y, z := v(one, 0, 0), v(0, one, 0), v(0, 0, one)
	check(t, []call{
		cross(x, y, z), cross(y, z, x), cross(z, x, y),
		cross(y, x, v(0, 0, -one)), cross(z, y, v(-one, 0, 0)), cross(x, z, v(0, -one, 0)),
		cross(v(2*one, 3*one, 5*one), v(7, 11, 13), v(39-55, 35-26, 22-21)),
		cross(x, x, v(0, 0, 0)),
		cross(v(0, 0, 0), v(most, -most, most), v(0, 0, 0)),
		// Each part is rounded down once, so what is below 0 is farther from it.
		cross(v(1, 2, 3), v(3, 2, 1), v(-1, 0, -1)),
		cross(v(3, 2, 1), v(1, 2, 3), v(0, -1, 0)),
		cross(v(most, most, most), v(most, most, most), v(0, 0, 0)),
		cross(v(most, 0, 0), v(0, one, 0), v(0, 0, most)),
		refused(cross(v(most, 0, 0), v(0, one+4, 0), v(0, 0, 0))),
		refused(cross(v(most, -most, most), v(-most, most, most), v(0, 0, 0))),
		refused(cross(v(0, 0, 0), v(0, math.MinInt, 0), v(0, 0, 0))),
		refused(cross(v(most+1, 0, 0), v(0, 0, 0), v(0, 0, 0))),
	})
}

func TestV1Unit(t *testing.T) {
	check(t, []call{
		unit(v(3, 0, 4), v(2576980377, 0, 3435973836)),
		unit(v(-3, 0, -4), v(-2576980378, 0, -3435973837)),
		unit(v(0, -7, 0), v(0, -one, 0)),
		unit(v(0, 0, 1), v(0, 0, one)),
		unit(v(most, 0, 0), v(one, 0, 0)),
		unit(v(0, 0, -most), v(0, 0, -one)),
		// A length that is rounded down may be much less than the vector's.
		unit(v(1, -1, 1), v(one, -one, one)),
		refused(unit(v(0, 0, 0), v(0, 0, 0))),
		refused(unit(v(most, most, most), v(0, 0, 0))),
		refused(unit(v(0, most+1, 0), v(0, 0, 0))),
	})
}

func TestV2Times(t *testing.T) {
	i, x, y, z := q(one, 0, 0, 0), q(0, one, 0, 0), q(0, 0, one, 0), q(0, 0, 0, one)
	check(t, []call{
		times(i, q(1, 2, 3, 4), q(1, 2, 3, 4)), times(q(1, 2, 3, 4), i, q(1, 2, 3, 4)),
		times(x, y, z), times(y, z, x), times(z, x, y),
		times(y, x, q(0, 0, 0, -one)), times(z, y, q(0, -one, 0, 0)), times(x, z, q(0, 0, -one, 0)),
		times(x, x, q(-one, 0, 0, 0)), times(y, y, q(-one, 0, 0, 0)), times(z, z, q(-one, 0, 0, 0)),
		times(q(2*one, 3*one, 5*one, 7*one), q(11, 13, 17, 19), q(22-39-85-133, 26+33+95-119, 34-57+55+91, 38+51-65+77)),
		// Down, and once.
		times(q(1, 1, 1, 1), q(1, 1, 1, 1), q(-1, 0, 0, 0)),
		times(q(-1, 1, 1, 1), q(1, 1, 1, 1), q(-1, 0, 0, 0)),
		times(q(most, 0, 0, 0), q(0, 0, -one, 0), q(0, 0, -most, 0)),
		times(q(most, most, 0, 0), q(1, 1, 0, 0), q(0, 1<<31-1, 0, 0)),
		refused(times(q(most, 0, 0, 0), q(0, 0, one+4, 0), q(0, 0, 0, 0))),
		refused(times(q(most, -most, most, -most), q(-most, most, most, most), q(0, 0, 0, 0))),
		refused(times(q(0, 0, 0, most+1), q(0, 0, 0, 0), q(0, 0, 0, 0))),
		refused(times(q(0, 0, 0, 0), q(math.MinInt, 0, 0, 0), q(0, 0, 0, 0))),
	})
}

func TestV2Whole(t *testing.T) {
	check(t, []call{
		whole(q(2*one, 0, 0, 0), q(one, 0, 0, 0)),
		whole(q(0, 0, -3*one, 0), q(0, 0, -one, 0)),
		whole(q(one, one, -one, one), q(one/2, one/2, -one/2, one/2)),
		whole(q(3*one, 0, -4*one, 0), q(2576980377, 0, -3435973837, 0)),
		whole(q(0, most, 0, 0), q(0, one, 0, 0)),
		whole(q(0, 0, 0, -most), q(0, 0, 0, -one)),
		whole(q(1<<31, 0, 0, 0), q(one, 0, 0, 0)),
		whole(q(1<<30, 1<<30, 1<<30, -1<<30), q(one/2, one/2, one/2, -one/2)),
		// 2^31 - 1 and a bit is rounded down, below what is enough.
		refused(whole(q(1<<31-1, 0, 0, 1), q(0, 0, 0, 0))),
		refused(whole(q(1<<31-1, 0, 0, 0), q(0, 0, 0, 0))),
		refused(whole(q(1<<30, 1<<30, 1<<30, 1<<30-1), q(0, 0, 0, 0))),
		refused(whole(q(1<<30, 0, 0, 0), q(0, 0, 0, 0))),
		refused(whole(q(0, 0, 0, 0), q(0, 0, 0, 0))),
		refused(whole(q(most, most, most, most), q(0, 0, 0, 0))),
		refused(whole(q(0, 0, most+1, 0), q(0, 0, 0, 0))),
		refused(whole(q(math.MinInt, one, 0, 0), q(0, 0, 0, 0))),
	})
}

func TestV3Rows(t *testing.T) {
	none := api.Mat{}
	check(t, []call{
		rows(q(one, 0, 0, 0), api.Mat{v(one, 0, 0), v(0, one, 0), v(0, 0, one)}),
		rows(q(-one, 0, 0, 0), api.Mat{v(one, 0, 0), v(0, one, 0), v(0, 0, one)}),
		rows(q(0, 0, 0, 0), api.Mat{v(one, 0, 0), v(0, one, 0), v(0, 0, one)}),
		// Half turns around each axis.
		rows(q(0, one, 0, 0), api.Mat{v(one, 0, 0), v(0, -one, 0), v(0, 0, -one)}),
		rows(q(0, 0, one, 0), api.Mat{v(-one, 0, 0), v(0, one, 0), v(0, 0, -one)}),
		rows(q(0, 0, 0, one), api.Mat{v(-one, 0, 0), v(0, -one, 0), v(0, 0, one)}),
		// A third of a turn: each axis is the next one's.
		rows(q(one/2, one/2, one/2, one/2), api.Mat{v(0, 0, one), v(one, 0, 0), v(0, one, 0)}),
		// All nine by hand, of a turn that is not whole.
		rows(q(one, 2*one, 3*one, 5*one), api.Mat{
			v(one-68*one, 12*one-10*one, 20*one+6*one),
			v(12*one+10*one, one-58*one, 30*one-4*one),
			v(20*one-6*one, 30*one+4*one, one-26*one),
		}),
		// What is below 0 is rounded down, and One less something up.
		rows(q(1, 1, 2, 3), api.Mat{v(one, -1, 0), v(0, one, 0), v(0, 0, one)}),
		rows(q(1, -1, 2, 3), api.Mat{v(one, -1, -1), v(0, one, 0), v(-1, 0, one)}),
		// Twice a part may be too great where the part is not.
		refused(rows(q(1<<61, 0, 0, 0), none)),
		refused(rows(q(0, -1<<61, 0, 0), none)),
		rows(q(1<<61-1, 0, 0, 0), api.Mat{v(one, 0, 0), v(0, one, 0), v(0, 0, one)}),
		refused(rows(q(0, 1<<61-1, 0, 0), none)),
		refused(rows(q(0, 0, most, 0), none)),
		refused(rows(q(0, 0, 0, -most), none)),
		refused(rows(q(most+1, 0, 0, 0), none)),
		refused(rows(q(0, 0, 0, math.MinInt), none)),
	})
}

func TestV3TurnAndBack(t *testing.T) {
	quarter := api.Mat{v(0, -one, 0), v(one, 0, 0), v(0, 0, one)}
	odd := api.Mat{v(one, 2*one, 3*one), v(5*one, 7*one, 11*one), v(13*one, 17*one, 19*one)}
	check(t, []call{
		turn(quarter, v(1, 2, 3), v(-2, 1, 3)),
		back(quarter, v(1, 2, 3), v(2, -1, 3)),
		turn(odd, v(1, 10, 100), v(321, 1175, 2083)),
		back(odd, v(1, 10, 100), v(1351, 1772, 2013)),
		turn(odd, v(0, 0, 0), v(0, 0, 0)),
		// Each part is rounded down once.
		turn(api.Mat{v(1, 1, 1), v(-1, -1, -1), v(one/2, one/2, 0)}, v(1, 1, 1), v(0, -1, 1)),
		back(api.Mat{v(1, -1, one/2), v(1, -1, one/2), v(1, -1, 0)}, v(1, 1, 1), v(0, -1, 1)),
		turn(quarter, v(most, -most, most), v(most, most, most)),
		back(quarter, v(most, -most, most), v(-most, -most, most)),
		// One part that is too great takes the two others with it.
		refused(turn(api.Mat{v(one, one, 0), v(one, 0, 0), v(0, 0, one)}, v(most, 1, 1), v(0, 0, 0))),
		refused(turn(api.Mat{v(one, 0, 0), v(0, one, 0), v(one, 0, one)}, v(most, 1, 1), v(0, 0, 0))),
		refused(back(api.Mat{v(one, one, 0), v(0, one, 0), v(0, 0, one)}, v(most, 1, 1), v(0, 0, 0))),
		refused(turn(api.Mat{v(0, 0, 0), v(0, 0, 0), v(0, most+1, 0)}, v(0, 0, 0), v(0, 0, 0))),
		refused(back(api.Mat{v(0, 0, 0), v(0, 0, 0), v(0, math.MinInt, 0)}, v(0, 0, 0), v(0, 0, 0))),
		refused(turn(quarter, v(0, 0, -most-1), v(0, 0, 0))),
		refused(back(quarter, v(0, 0, -most-1), v(0, 0, 0))),
	})
}

func TestV4Spin(t *testing.T) {
	i := q(one, 0, 0, 0)
	check(t, []call{
		spin(i, v(0, 0, 0), i),
		spin(q(3*one, 0, 0, 0), v(0, 0, 0), i),
		spin(i, v(one, 0, 0), q(3037000500, 3037000500, 0, 0)),
		spin(i, v(0, -one, 0), q(3037000500, 0, -3037000501, 0)),
		// The spin stands ahead of the turn: around the world's axes, not the body's.
		spin(q(0, one, 0, 0), v(0, 0, one), q(0, 3037000500, 3037000500, 0)),
		spin(q(0, 0, one, 0), v(0, 0, one), q(0, -3037000501, 3037000500, 0)),
		spin(q(one/2, 0, 0, 0), v(0, 0, 0), i),
		refused(spin(q(one/2-1, 0, 0, 0), v(0, 0, 0), q(0, 0, 0, 0))),
		refused(spin(q(0, 0, 0, 0), v(one, one, one), q(0, 0, 0, 0))),
		refused(spin(q(most, 0, 0, 0), v(2*one, 0, 0), q(0, 0, 0, 0))),
		refused(spin(i, v(most, most, most), q(0, 0, 0, 0))),
		refused(spin(i, v(0, most+1, 0), q(0, 0, 0, 0))),
		refused(spin(q(one, 0, 0, math.MinInt), v(0, 0, 0), q(0, 0, 0, 0))),
	})
}

// TestBadStays: a flag that one call has set is seen behind all others, and
// they tell what they would without it.
func TestBadStays(t *testing.T) {
	w := &fx.Work{}
	if a := vec.Unit(w, v(0, 0, 0)); a != v(0, 0, 0) || !w.Bad {
		t.Fatal(a, w.Bad)
	}
	if a := vec.Add(w, v(1, 2, 3), v(1, 1, 1)); a != v(2, 3, 4) || !w.Bad {
		t.Error(a, w.Bad)
	}
	if a := vec.Spin(w, q(one, 0, 0, 0), v(0, 0, 0)); a != q(one, 0, 0, 0) || !w.Bad {
		t.Error(a, w.Bad)
	}
	if a := vec.Sub(w, v(1, 2, most), v(1, 1, -1)); a != v(0, 0, 0) || !w.Bad {
		t.Error(a, w.Bad)
	}
	if a := vec.Rows(w, q(most, 0, 0, 0)); a != (api.Mat{}) || !w.Bad {
		t.Error(a, w.Bad)
	}
}
