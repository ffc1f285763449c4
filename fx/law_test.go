package fx_test

import (
	"math"
	"math/big"
	"slices"
	"testing"

	"tumbler/fx"
)

// edges are where something may go wrong: noughts, ones, words and their
// halves, roots of the greatest numbers, and those just beyond, either sign.
func edges() []int {
	l := []int{0, math.MinInt}
	for _, n := range []int{1, 2, 3, 7, 1 << 15, 1 << 16, 1 << 30, 1 << 31, one, 1 << 46, 1 << 47, 1 << 48, 1 << 60, 1 << 61, most, math.MaxInt - 1} {
		l = append(l, n-1, n, n+1, 1-n, -n, -n-1)
	}
	slices.Sort(l)
	return slices.Compact(l)
}

// dice are numbers of all lengths, the same ones each time.
func dice(many int) []int {
	var l []int
	state := uint64(1)
	for range many {
		state = state*6364136223846793005 + 1442695040888963407
		mixed := (state ^ state>>29) * 0xbf58476d1ce4e5b9
		l = append(l, int(mixed)>>(mixed>>7%64))
	}
	return l
}

func exact(n int) *big.Int { return big.NewInt(int64(n)) }

func isGreat(n *big.Int) bool { return n.CmpAbs(exact(most)) > 0 }

// down is a / b by the rule; nil: there is none.
func down(a, b *big.Int) *big.Int {
	if b.Sign() == 0 {
		return nil
	}
	q, rest := new(big.Int).QuoRem(a, b, new(big.Int))
	if rest.Sign() != 0 && rest.Sign() != b.Sign() {
		q.Sub(q, exact(1))
	}
	return q
}

// rootDown is the square root by the rule; nil: there is none.
func rootDown(n *big.Int) *big.Int {
	if n.Sign() < 0 {
		return nil
	}
	return new(big.Int).Sqrt(n)
}

// same holds what a new work told against the number that is meant.
func same(t *testing.T, name string, args []int, do func(w *fx.Work) int, want *big.Int) {
	t.Helper()
	bad := want == nil || isGreat(want) || slices.ContainsFunc(args, func(n int) bool { return isGreat(exact(n)) })
	if bad {
		want = exact(0)
	}
	w := &fx.Work{}
	if n := do(w); exact(n).Cmp(want) != 0 || w.Bad != bad {
		t.Fatalf("%s %v: %d %v, not %v %v", name, args, n, w.Bad, want, bad)
	}
}

func sameOfTwo(t *testing.T, a, b int) {
	t.Helper()
	args, x, y := []int{a, b}, exact(a), exact(b)
	same(t, "Add", args, func(w *fx.Work) int { return w.Add(a, b) }, new(big.Int).Add(x, y))
	same(t, "Sub", args, func(w *fx.Work) int { return w.Sub(a, b) }, new(big.Int).Sub(x, y))
	same(t, "Mul", args, func(w *fx.Work) int { return w.Mul(a, b) }, down(new(big.Int).Mul(x, y), exact(one)))
	same(t, "Div", args, func(w *fx.Work) int { return w.Div(a, b) }, down(new(big.Int).Mul(x, exact(one)), y))
}

func sameRatio(t *testing.T, a, b, c int) {
	t.Helper()
	want := down(new(big.Int).Mul(exact(a), exact(b)), exact(c))
	same(t, "Ratio", []int{a, b, c}, func(w *fx.Work) int { return w.Ratio(a, b, c) }, want)
}

func sameOfLists(t *testing.T, a, b []int) {
	t.Helper()
	products, squares := new(big.Int), new(big.Int)
	for i := range a {
		products.Add(products, new(big.Int).Mul(exact(a[i]), exact(b[i])))
		squares.Add(squares, new(big.Int).Mul(exact(a[i]), exact(a[i])))
	}
	same(t, "Dot", slices.Concat(a, b), func(w *fx.Work) int { return w.Dot(a, b) }, down(products, exact(one)))
	same(t, "Norm", a, func(w *fx.Work) int { return w.Norm(a...) }, rootDown(squares))
}

func TestF1F2AgainstExactNumbers(t *testing.T) {
	l := edges()
	for _, a := range l {
		same(t, "Root", []int{a}, func(w *fx.Work) int { return w.Root(a) }, rootDown(new(big.Int).Mul(exact(a), exact(one))))
		for _, b := range l {
			sameOfTwo(t, a, b)
			for _, c := range l {
				sameRatio(t, a, b, c)
			}
		}
	}
	d := dice(60000)
	for i := 0; i+3 <= len(d); i += 3 {
		sameOfTwo(t, d[i], d[i+1])
		sameRatio(t, d[i], d[i+1], d[i+2])
		same(t, "Root", d[i:i+1], func(w *fx.Work) int { return w.Root(d[i]) }, rootDown(new(big.Int).Mul(exact(d[i]), exact(one))))
	}
}

func TestF3AgainstExactNumbers(t *testing.T) {
	d := dice(60000)
	for i := 0; i+16 <= len(d); i += 16 {
		for many := range 9 {
			sameOfLists(t, d[i:i+many], d[i+8:i+8+many])
		}
	}
	for _, a := range edges() {
		for _, b := range edges() {
			for many := range 9 {
				sameOfLists(t, times(a, many), times(b, many))
			}
			sameOfLists(t, []int{a, b, -a}, []int{b, -a, a})
		}
	}
}

func TestF4NeverTooGreatAndLessThanOneTooSmall(t *testing.T) {
	d := append(edges(), dice(3000)...)
	for i, a := range d {
		b := d[(i*7+3)%len(d)]
		w := &fx.Work{}
		n := w.Mul(a, b)
		// What is left of the product is what was rounded, in parts of 2^32.
		rest := new(big.Int).Mul(exact(a), exact(b))
		rest.Sub(rest, new(big.Int).Mul(exact(n), exact(one)))
		if !w.Bad && (rest.Sign() < 0 || rest.Cmp(exact(one)) >= 0) {
			t.Fatalf("Mul(%d, %d): %d leaves %v", a, b, n, rest)
		}
		w = &fx.Work{}
		n = w.Root(a)
		whole, next := new(big.Int).Mul(exact(a), exact(one)), exact(n+1)
		if !w.Bad && (new(big.Int).Mul(exact(n), exact(n)).Cmp(whole) > 0 || next.Mul(next, next).Cmp(whole) <= 0) {
			t.Fatalf("Root(%d): %d", a, n)
		}
	}
}

func TestF4MulKeepsOrder(t *testing.T) {
	l := append(edges(), dice(200)...)
	slices.Sort(l)
	for _, by := range l {
		last, any := 0, false
		for _, a := range l {
			w := &fx.Work{}
			n := w.Mul(a, by)
			if by < 0 || w.Bad {
				continue
			}
			if any && n < last {
				t.Fatalf("Mul(%d, %d): %d, below that of a lesser one: %d", a, by, n, last)
			}
			last, any = n, true
		}
	}
}

func TestF4RootOfSquareIsNotAboveSize(t *testing.T) {
	seen := 0
	for _, a := range append(edges(), dice(20000)...) {
		w := &fx.Work{}
		n := w.Root(w.Mul(a, a))
		if w.Bad {
			continue
		}
		seen++
		if n < 0 || n > max(a, -a) {
			t.Fatalf("Root(Mul(%d, %d)): %d", a, a, n)
		}
	}
	if seen < 1000 {
		t.Errorf("only %d squares were not bad", seen)
	}
}

func TestFlagStaysWithItsOwnWork(t *testing.T) {
	w, other := &fx.Work{}, &fx.Work{}
	if w.Add(most, 0); w.Bad {
		t.Error("bad ahead of anything bad")
	}
	if n := w.Add(most, 1); n != 0 || !w.Bad {
		t.Errorf("%d %v, not 0 and bad", n, w.Bad)
	}
	if n := w.Add(1, 1); n != 2 || !w.Bad {
		t.Errorf("%d %v, not 2 and bad still", n, w.Bad)
	}
	if n := other.Add(1, 1); n != 2 || other.Bad {
		t.Errorf("%d %v: another work knows of it", n, other.Bad)
	}
}

func TestListsAreNotWrittenInto(t *testing.T) {
	for _, first := range []int{one, math.MinInt} {
		a, b := []int{first, -2, 3, 99, 98}, []int{-5, 6, most, 97, 96}
		wasA, wasB := slices.Clone(a), slices.Clone(b)
		w := &fx.Work{}
		w.Dot(a[:3], b[:3])
		w.Dot(a[:2], b[:3])
		w.Norm(a[:3]...)
		w.Norm(b[:3]...)
		if !slices.Equal(a, wasA) || !slices.Equal(b, wasB) {
			t.Errorf("written into: %v %v", a, b)
		}
	}
}
