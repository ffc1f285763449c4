package fx

import (
	"math/bits"

	"tumbler/api"
)

// wide is a whole number of 128 bits, in two's complement: wide enough for
// eight products of numbers that are not great, so that nothing is rounded
// ahead of the one rounding at the end.
type wide struct{ high, low uint64 }

func product(a, b int) wide {
	high, low := bits.Mul64(uint64(a), uint64(b))
	// Mul64 took what is below 0 for 2^64 more than it is.
	if a < 0 {
		high -= uint64(b)
	}
	if b < 0 {
		high -= uint64(a)
	}
	return wide{high, low}
}

func (x wide) plus(y wide) wide {
	low, carry := bits.Add64(x.low, y.low, 0)
	high, _ := bits.Add64(x.high, y.high, carry)
	return wide{high, low}
}

func (x wide) below0() bool { return int64(x.high) < 0 }

// size is without the sign.
func (x wide) size() wide {
	if !x.below0() {
		return x
	}
	low, borrow := bits.Sub64(0, x.low, 0)
	high, _ := bits.Sub64(0, x.high, borrow)
	return wide{high, low}
}

// byOne is x / 2^32, down; false: it does not fit an int.
func (x wide) byOne() (int, bool) {
	n := int64(x.high<<32 | x.low>>32)
	above := int64(x.high) >> 32
	return int(n), above == n>>63
}

// by is x / c, down, where c is neither 0 nor great; false: it does not fit an
// int, or is above Most in size by more than the rounding.
func (x wide) by(c int) (int, bool) {
	top, under := x.size(), uint64(max(c, -c))
	if top.high >= under { // Div64 panics on these; they are 2^64 or more
		return 0, false
	}
	n, rest := bits.Div64(top.high, top.low, under)
	if n > api.Most { // refused here already, so that n + 1 and -n can't wrap
		return 0, false
	}
	if x.below0() == (c < 0) {
		return int(n), true
	}
	if rest != 0 {
		n++ // down is away from nought here
	}
	return -int(n), true
}

// root is the square root of x, down, where x is not below 0; false: it does
// not fit an int.
func (x wide) root() (int, bool) {
	var n uint64
	for place := (x.length()+1)/2 - 1; place >= 0; place-- {
		next := n | 1<<place
		if !squareAbove(next, x) {
			n = next
		}
	}
	return int(n), n <= api.Most
}

// length is how many bits x has, where x is not below 0.
func (x wide) length() int {
	if x.high > 0 {
		return 64 + bits.Len64(x.high)
	}
	return bits.Len64(x.low)
}

func squareAbove(n uint64, x wide) bool {
	high, low := bits.Mul64(n, n)
	return high > x.high || high == x.high && low > x.low
}
