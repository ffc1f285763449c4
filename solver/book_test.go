package solver_test

import (
	"math/big"

	"tumbler/api"
)

// parts are those of a vector.
type parts [3]*big.Int

// tooGreat is what the book panics with where a work would become Bad: of that no row
// is left, whatever comes behind it.
type tooGreat struct{}

func exact(n int) *big.Int { return big.NewInt(int64(n)) }

// told is n, unless it is too great.
func told(n *big.Int) *big.Int {
	if n.CmpAbs(exact(most)) > 0 {
		panic(tooGreat{})
	}
	return n
}

// number is what an exact number is told as.
func number(n *big.Int) int { return int(told(n).Int64()) }

// partsOf are three numbers, each so many times.
func partsOf(x, y, z, many int) parts {
	var out parts
	for i, n := range []int{x, y, z} {
		out[i] = told(new(big.Int).Mul(told(exact(n)), exact(many)))
	}
	return out
}

func (x parts) vec() api.Vec { return v(number(x[0]), number(x[1]), number(x[2])) }

func (x parts) less(y parts) parts {
	for i := range x {
		x[i] = told(new(big.Int).Sub(x[i], y[i]))
	}
	return x
}

func (x parts) cross(y parts) parts {
	var out parts
	for i := range out {
		j, k := (i+1)%3, (i+2)%3
		n := new(big.Int).Mul(x[j], y[k])
		n.Sub(n, new(big.Int).Mul(x[k], y[j]))
		out[i] = told(n.Rsh(n, 32)) // down, of one below 0 too
	}
	return out
}

func (x parts) unit() parts {
	long := new(big.Int)
	for _, n := range x {
		long.Add(long, new(big.Int).Mul(n, n))
	}
	if told(long.Sqrt(long)).Sign() == 0 {
		panic(tooGreat{})
	}
	for i, n := range x {
		up := new(big.Int).Lsh(n, 32)
		x[i] = told(up.Div(up, long)) // Euclid's: of a divisor above 0 it is down
	}
	return x
}

// besides are the two ways across x.
func (x parts) besides() []parts {
	s := partsOf(one, 0, 0, 1)
	switch {
	case x[0].CmpAbs(x[1]) <= 0 && x[0].CmpAbs(x[2]) <= 0:
	case x[1].CmpAbs(x[2]) <= 0:
		s = partsOf(0, one, 0, 1)
	default:
		s = partsOf(0, 0, one, 1)
	}
	t := x.cross(s).unit()
	return []parts{t, x.cross(t)}
}

// goalInBook is told by how the promise has it, in exact numbers.
func goalInBook(depth int) int {
	if exact(depth).CmpAbs(exact(1<<20)) > 0 {
		panic(tooGreat{})
	}
	if depth < 0 {
		return number(new(big.Int).Mul(exact(depth), exact(1<<26)))
	}
	if depth < 2 {
		return 0
	}
	goal := new(big.Int).Lsh(exact(depth-1), 23)
	if goal.Cmp(exact(one)) > 0 {
		goal = exact(one)
	}
	return number(goal)
}

// armInBook is from the body at a place to a spot.
func armInBook(at parts, place int, l []api.Body) api.Vec {
	for i, b := range l {
		if i == place {
			return at.less(partsOf(b.Pose.At.X, b.Pose.At.Y, b.Pose.At.Z, 1)).vec()
		}
	}
	return api.Vec{}
}

// asked is what Rows is asked.
type asked struct {
	p          api.Patch
	a, b       int
	l          []api.Body
	rub, first int
}

// book is the rules over again, from the lowest layer on, with exact numbers; whether
// a work would be Bad.
func (x asked) book() (rows []api.Row, bad bool) {
	defer func() {
		if r := recover(); r != nil {
			_ = r.(tooGreat)
			rows, bad = nil, true
		}
	}()
	for i, s := range x.p.Spots {
		n := partsOf(x.p.Axis.X, x.p.Axis.Y, x.p.Axis.Z, 1<<12).unit()
		at := partsOf(s.At.X, s.At.Y, s.At.Z, 1<<20)
		normal := api.Row{
			A: x.a, B: x.b, Way: n.vec(), ArmA: armInBook(at, x.a, x.l), ArmB: armInBook(at, x.b, x.l),
			Goal: goalInBook(s.Depth), Low: 0, High: 1 << 44, Of: -1,
		}
		rows = append(rows, normal)
		if x.rub <= 0 {
			continue
		}
		for _, way := range n.besides() {
			place := number(new(big.Int).Add(told(exact(x.first)), exact(3*i)))
			rows = append(rows, api.Row{A: x.a, B: x.b, Way: way.vec(), ArmA: normal.ArmA, ArmB: normal.ArmB, Of: place, Rub: x.rub})
		}
	}
	return rows, false
}
