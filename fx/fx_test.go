package fx_test

import (
	"math"
	"slices"
	"testing"

	"tumbler/api"
	"tumbler/fx"
)

const (
	one  = api.One
	most = api.Most
)

// call is one call on a work, with what it must tell; bad stands for 0 and a
// flag that is set.
type call struct {
	name string
	do   func(w *fx.Work) int
	want int
	bad  bool
}

func add(a, b, want int) call {
	return call{"Add", func(w *fx.Work) int { return w.Add(a, b) }, want, false}
}

func sub(a, b, want int) call {
	return call{"Sub", func(w *fx.Work) int { return w.Sub(a, b) }, want, false}
}

func mul(a, b, want int) call {
	return call{"Mul", func(w *fx.Work) int { return w.Mul(a, b) }, want, false}
}

func div(a, b, want int) call {
	return call{"Div", func(w *fx.Work) int { return w.Div(a, b) }, want, false}
}

func ratio(a, b, c, want int) call {
	return call{"Ratio", func(w *fx.Work) int { return w.Ratio(a, b, c) }, want, false}
}

func root(a, want int) call {
	return call{"Root", func(w *fx.Work) int { return w.Root(a) }, want, false}
}

func dot(a, b []int, want int) call {
	return call{"Dot", func(w *fx.Work) int { return w.Dot(a, b) }, want, false}
}

func norm(want int, l ...int) call {
	return call{"Norm", func(w *fx.Work) int { return w.Norm(l...) }, want, false}
}

func refused(c call) call {
	c.want, c.bad = 0, true
	return c
}

func times(n, many int) []int { return slices.Repeat([]int{n}, many) }

// check runs each call twice: on a new work, whose flag must tell this call
// alone, and on a Bad one, whose flag must stay and bear upon no number.
func check(t *testing.T, calls []call) {
	t.Helper()
	for i, c := range calls {
		w := &fx.Work{}
		if n := c.do(w); n != c.want || w.Bad != c.bad {
			t.Errorf("%d %s: %d %v, not %d %v", i, c.name, n, w.Bad, c.want, c.bad)
		}
		w = &fx.Work{Bad: true}
		if n := c.do(w); n != c.want || !w.Bad {
			t.Errorf("%d %s on a bad work: %d %v, not %d", i, c.name, n, w.Bad, c.want)
		}
	}
}

func TestF1AddSub(t *testing.T) {
	check(t, []call{
		add(1, 2, 3), add(-1, 2, 1), add(0, 0, 0), add(most, 0, most), add(most, -most, 0),
		add(most-1, 1, most), add(1-most, -1, -most),
		refused(add(most, 1, 0)), refused(add(-most, -1, 0)), refused(add(most, most, 0)), refused(add(-most, -most, 0)),
		refused(add(most+1, -1, 0)), refused(add(-1, most+1, 0)), refused(add(-most-1, 1, 0)), refused(add(1, -most-1, 0)),
		refused(add(math.MaxInt, math.MinInt, 0)), refused(add(math.MaxInt, 1, 0)), refused(add(math.MinInt, math.MinInt, 0)),
		sub(1, 2, -1), sub(2, 1, 1), sub(0, most, -most), sub(most, most, 0), sub(-most, -most, 0), sub(1-most, 1, -most),
		refused(sub(-most, 1, 0)), refused(sub(most, -1, 0)), refused(sub(most, -most, 0)), refused(sub(-most, most, 0)),
		refused(sub(most+1, 1, 0)), refused(sub(1, most+1, 0)), refused(sub(-most-1, -1, 0)), refused(sub(0, math.MinInt, 0)),
		refused(sub(math.MaxInt, math.MaxInt, 0)),
	})
}

func TestF1Mul(t *testing.T) {
	check(t, []call{
		mul(2*one, 3*one, 6*one), mul(-2*one, 3*one, -6*one), mul(-2*one, -3*one, 6*one), mul(0, most, 0), mul(-most, 0, 0),
		mul(1, 1, 0), mul(-1, 1, -1), mul(1, -1, -1), mul(-1, -1, 0), mul(one-1, 1, 0), mul(1-one, 1, -1), mul(-one-1, 1, -2),
		mul(-one, 1, -1), mul(3, one/2, 1), mul(-3, one/2, -2),
		mul(most, one, most), mul(-most, one, -most), mul(most, -one, -most), mul(-most, -one, most),
		mul(1<<47, 1<<46, 1<<61), mul(1<<47, 1-1<<47, 1<<15-1<<62),
		// Less than one above -2^62 and below 2^62: down, the first one alone is great.
		refused(mul(1-1<<47, 1<<47+1, 0)), mul(1<<47-1, 1<<47+1, most),
		refused(mul(1<<47, 1<<47, 0)), refused(mul(1<<47, -1<<47, 0)), refused(mul(1<<48, 1<<48, 0)), refused(mul(1<<48, -1<<48, 0)),
		refused(mul(most, one+1, 0)), refused(mul(most, -one-1, 0)), refused(mul(most, most, 0)), refused(mul(most, -most, 0)),
		refused(mul(most+1, 0, 0)), refused(mul(0, -most-1, 0)), refused(mul(math.MinInt, 0, 0)), refused(mul(1, math.MaxInt, 0)),
		refused(mul(math.MinInt, math.MinInt, 0)),
	})
}

func TestF1Div(t *testing.T) {
	check(t, []call{
		div(one, 3*one, 1431655765), div(-one, 3*one, -1431655766), div(one, -3*one, -1431655766), div(-one, -3*one, 1431655765),
		div(6*one, 3*one, 2*one), div(-6*one, 3*one, -2*one), div(0, 5, 0), div(0, -5, 0),
		div(-1, 3*one, -1), div(1, -3*one, -1), div(1, 3*one, 0), div(1, most, 0), div(-1, most, -1), div(1, -most, -1),
		div(most, one, most), div(most, -one, -most), div(most, most, one), div(most, -most, -one),
		div(1<<30-1, 1, 1<<62-one), div(-1<<30+1, 1, one-1<<62),
		refused(div(1, 0, 0)), refused(div(0, 0, 0)), refused(div(-1, 0, 0)),
		refused(div(1<<30, 1, 0)), refused(div(-1<<30, 1, 0)), refused(div(1<<30, -1, 0)), refused(div(1<<40, 1, 0)), refused(div(most, 1, 0)), refused(div(-most, 1, 0)),
		refused(div(most, one-1, 0)), refused(div(most+1, most, 0)), refused(div(1, most+1, 0)), refused(div(1, math.MinInt, 0)), refused(div(math.MinInt, 1, 0)),
	})
}

func TestF2Ratio(t *testing.T) {
	check(t, []call{
		ratio(7, 3, 2, 10), ratio(-7, 3, 2, -11), ratio(7, -3, 2, -11), ratio(7, 3, -2, -11), ratio(-7, -3, 2, 10), ratio(-7, 3, -2, 10), ratio(-7, -3, -2, -11),
		ratio(6, 3, -2, -9), ratio(0, 3, -2, 0), ratio(1, 1, most, 0), ratio(-1, 1, most, -1), ratio(1, 1, -most, -1),
		ratio(most, most, most, most), ratio(most, -most, most, -most), ratio(most, most, -most, -most), ratio(-most, -most, most, most),
		ratio(most, 1, 1, most), ratio(most, 1, -1, -most), ratio(most, most-1, most, most-1), ratio(most, 1-most, most, 1-most),
		ratio(most-1, most-1, most, most-2), ratio(1-most, most-1, most, 1-most),
		refused(ratio(1, 1, 0, 0)), refused(ratio(0, 0, 0, 0)), refused(ratio(-1, most, 0, 0)),
		refused(ratio(most, 2, 1, 0)), refused(ratio(most, -2, 1, 0)), refused(ratio(most, most, 1, 0)), refused(ratio(most, most, -1, 0)),
		refused(ratio(most, most, most-1, 0)), refused(ratio(-most, most, most-1, 0)),
		// Half above -2^62 and half below 2^62: down, the first one alone is great.
		refused(ratio(-7, math.MaxInt/7, 2, 0)), refused(ratio(7, math.MaxInt/7, -2, 0)), ratio(7, math.MaxInt/7, 2, most), ratio(-7, math.MaxInt/7, -2, most),
		// Quotients on either side of 2^64.
		refused(ratio(1<<61, 1<<61, 1<<58-1, 0)), refused(ratio(1<<61, 1<<61, 1<<58, 0)), refused(ratio(1<<61, -1<<61, 1<<58+1, 0)),
		refused(ratio(most+1, 1, 1, 0)), refused(ratio(1, most+1, 2, 0)), refused(ratio(1, 1, most+1, 0)),
		refused(ratio(-most-1, 0, 1, 0)), refused(ratio(0, -most-1, 1, 0)), refused(ratio(0, 0, -most-1, 0)), refused(ratio(1, 1, math.MinInt, 0)), refused(ratio(math.MinInt, 1, 2, 0)),
	})
}

func TestF2Root(t *testing.T) {
	check(t, []call{
		root(0, 0), root(1, 1<<16), root(2, 92681), root(one, one), root(2*one, 6074000999), root(4*one, 2*one), root(4*one-1, 2*one-1),
		root(one-1, one-1), root(one+1, one), root(most, 1<<47-1), root(1<<60, 1<<46),
		refused(root(-1, 0)), refused(root(-most, 0)), refused(root(-most-1, 0)), refused(root(most+1, 0)), refused(root(math.MaxInt, 0)), refused(root(math.MinInt, 0)),
	})
}

func TestF3Dot(t *testing.T) {
	check(t, []call{
		dot(nil, nil, 0), dot([]int{}, nil, 0), dot([]int{one, one}, []int{5, -7}, -2), dot([]int{3 * one}, []int{-2 * one}, -6*one),
		// Each alone would be rounded; together they are whole.
		dot([]int{1, 1}, []int{one / 2, one / 2}, 1), dot([]int{-1, -1}, []int{1, 1}, -1), dot(times(-1, 8), times(1, 8), -1),
		dot([]int{-1, 1}, []int{1, 1}, 0), dot(times(one, 8), times(3, 8), 24),
		// Too great in between, not in the end.
		dot([]int{most, most}, []int{most, -most}, 0), dot([]int{most, most, one}, []int{most, -most, -7}, -7),
		dot([]int{most, most, most, most, most, most, most, one}, []int{most, most, most, -most, -most, -most, one, 0}, most),
		dot([]int{one}, []int{most}, most), dot([]int{-one}, []int{most}, -most), dot([]int{one, 1}, []int{most, one - 1}, most),
		refused(dot([]int{one, 1}, []int{most, one}, 0)), refused(dot([]int{-one, -1}, []int{most, 1}, 0)),
		refused(dot(times(most, 8), times(most, 8), 0)), refused(dot(times(most, 8), times(-most, 8), 0)),
		refused(dot([]int{1}, nil, 0)), refused(dot(nil, []int{1}, 0)), refused(dot([]int{1, 2}, []int{1}, 0)), refused(dot(times(0, 8), times(0, 9), 0)),
		refused(dot(times(0, 9), times(0, 9), 0)), refused(dot(times(1, 9), times(1, 9), 0)), refused(dot(times(1, 1000), times(1, 1000), 0)),
		refused(dot([]int{most + 1}, []int{0}, 0)), refused(dot([]int{0}, []int{-most - 1}, 0)), refused(dot([]int{0, 0, math.MinInt}, []int{0, 0, 0}, 0)),
		refused(dot([]int{0, 0}, []int{0, math.MaxInt}, 0)),
	})
}

func TestF3Norm(t *testing.T) {
	check(t, []call{
		norm(0), norm(0, 0, 0, 0), norm(5, 3, 4), norm(5, -3, -4), norm(1, 1, 1), norm(1, 1, 1, 1), norm(2, 1, 1, 1, 1), norm(2, 1, 1, 1, 1, 1, 1, 1, 1),
		norm(7, 7), norm(7, -7), norm(most, most), norm(most, -most), norm(most, most, 1), norm(most, 0, 0, 0, 0, 0, 0, 0, -most),
		norm(5*(most/5), 3*(most/5), 4*(most/5)), norm(most, most, 3037000499), refused(norm(0, most, 3037000500)),
		refused(norm(0, most, most)), refused(norm(0, times(most, 8)...)), refused(norm(0, times(-most, 8)...)),
		refused(norm(0, times(0, 9)...)), refused(norm(0, times(1, 9)...)), refused(norm(0, times(1, 1000)...)),
		refused(norm(0, most+1)), refused(norm(0, -most-1)), refused(norm(0, 0, 0, math.MinInt)), refused(norm(0, math.MaxInt)),
	})
}
