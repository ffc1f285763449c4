// Package fx is layer 1: see shared/doc/01-fx.md.
package fx

import "tumbler/api"

// maxElements is how many elements Dot and Norm take: their exact sums stay
// below 2^127 then, so that two words hold them.
const maxElements = 8

// Work reckons with FX; Bad, once a number was too great, or there was none.
type Work struct{ Bad bool }

// Add is a + b.
func (w *Work) Add(a, b int) int {
	if anyGreat(a, b) {
		return w.none()
	}
	return w.tell(a+b, true)
}

// Sub is a - b.
func (w *Work) Sub(a, b int) int {
	if anyGreat(a, b) {
		return w.none()
	}
	return w.tell(a-b, true)
}

// Mul is a * b / 2^32, down.
func (w *Work) Mul(a, b int) int {
	if anyGreat(a, b) {
		return w.none()
	}
	return w.tell(product(a, b).byOne())
}

// Div is a * 2^32 / b, down.
func (w *Work) Div(a, b int) int { return w.Ratio(a, api.One, b) }

// Ratio is a * b / c, down.
func (w *Work) Ratio(a, b, c int) int {
	if c == 0 || anyGreat(a, b, c) {
		return w.none()
	}
	return w.tell(product(a, b).by(c))
}

// Root is the square root of a * 2^32, down.
func (w *Work) Root(a int) int {
	if a < 0 || anyGreat(a) {
		return w.none()
	}
	return w.tell(product(a, api.One).root())
}

// Dot is the sum of a's elements, each times b's of the same place, by 2^32,
// down once.
func (w *Work) Dot(a, b []int) int {
	if len(a) != len(b) || len(a) > maxElements || anyGreat(a...) || anyGreat(b...) {
		return w.none()
	}
	var sum wide
	for i, n := range a {
		sum = sum.plus(product(n, b[i]))
	}
	return w.tell(sum.byOne())
}

// Norm is the square root of the sum of the elements' squares, down.
func (w *Work) Norm(l ...int) int {
	if len(l) > maxElements || anyGreat(l...) {
		return w.none()
	}
	var sum wide
	for _, n := range l {
		sum = sum.plus(product(n, n))
	}
	return w.tell(sum.root())
}

// tell is how every number gets out: n, unless it did not fit an int or is
// great.
func (w *Work) tell(n int, fits bool) int {
	if !fits || anyGreat(n) {
		return w.none()
	}
	return n
}

func (w *Work) none() int {
	w.Bad = true
	return 0
}

func anyGreat(l ...int) bool {
	for _, n := range l {
		if n < -api.Most || n > api.Most {
			return true
		}
	}
	return false
}
