package joint_test

import (
	"math/big"

	"tumbler/api"
)

// parts are those of a vector, or of a turn, its W last.
type parts []*big.Int

// tooGreat is what the book panics with where a work would become Bad: of that no row
// is left, whatever comes behind it.
type tooGreat struct{}

func exact(n int) *big.Int { return big.NewInt(int64(n)) }

// told is n, unless it is too great.
func told(n *big.Int) *big.Int {
	if n.CmpAbs(exact(most)) > 0 {
		panic(tooGreat{})
	}
	return n
}

func partsOfVec(a api.Vec) parts { return parts{told(exact(a.X)), told(exact(a.Y)), told(exact(a.Z))} }

func (x parts) vec() api.Vec { return v(int(x[0].Int64()), int(x[1].Int64()), int(x[2].Int64())) }

// sum is that of products, by One, down.
func sum(pairs ...*big.Int) *big.Int {
	n := new(big.Int)
	for i := 0; i < len(pairs); i += 2 {
		n.Add(n, new(big.Int).Mul(pairs[i], pairs[i+1]))
	}
	return told(n.Rsh(n, 32))
}

func minus(n *big.Int) *big.Int { return new(big.Int).Neg(n) }

func twice(n *big.Int) *big.Int { return told(new(big.Int).Lsh(n, 1)) }

func (x parts) plus(y parts) parts {
	var out parts
	for i := range 3 {
		out = append(out, told(new(big.Int).Add(x[i], y[i])))
	}
	return out
}

func (x parts) reversed() parts { return parts{minus(x[0]), minus(x[1]), minus(x[2])} }

// eightBack is x times -8.
func (x parts) eightBack() parts {
	var out parts
	for i := range 3 {
		out = append(out, told(new(big.Int).Mul(x[i], exact(-8))))
	}
	return out
}

func (x parts) dot(y parts) *big.Int { return sum(x[0], y[0], x[1], y[1], x[2], y[2]) }

func (x parts) cross(y parts) parts {
	var out parts
	for i := range 3 {
		j, k := (i+1)%3, (i+2)%3
		out = append(out, sum(x[j], y[k], x[k], minus(y[j])))
	}
	return out
}

// long is how long x is, down.
func (x parts) long() *big.Int {
	n := new(big.Int)
	for _, p := range x {
		n.Add(n, new(big.Int).Mul(p, p))
	}
	return told(n.Sqrt(n))
}

func (x parts) unit() parts {
	n := x.long()
	if n.Sign() == 0 {
		panic(tooGreat{})
	}
	var out parts
	for i := range 3 {
		up := new(big.Int).Lsh(x[i], 32)
		out = append(out, told(up.Div(up, n))) // Euclid's: of a divisor above 0 it is down
	}
	return out
}

func partsOfTurn(q api.Quat) parts {
	return append(partsOfVec(v(q.X, q.Y, q.Z)), told(exact(q.W)))
}

// turned is a, turned as the rows of q say, which are told by its axis going round.
func (q parts) turned(a parts) parts {
	out, w := make(parts, 3), twice(q[3])
	var rows [3]parts
	for i := range 3 {
		j, k := (i+1)%3, (i+2)%3
		rows[i] = make(parts, 3)
		rows[i][i] = told(new(big.Int).Sub(exact(one), sum(twice(q[j]), q[j], twice(q[k]), q[k])))
		rows[i][j] = sum(twice(q[i]), q[j], w, minus(q[k]))
		rows[i][k] = sum(twice(q[i]), q[k], w, q[j])
	}
	for i := range 3 {
		out[i] = rows[i].dot(a)
	}
	return out
}

// turnsTo is what turns a to b: of a turn's X, Y and Z, the other way round, if its W
// is below 0.
func (q parts) turnsTo(b parts) parts {
	back := q.reversed()
	out := make(parts, 3)
	for i := range 3 {
		j, k := (i+1)%3, (i+2)%3
		out[i] = sum(b[3], back[i], b[i], q[3], b[j], back[k], b[k], minus(back[j]))
	}
	if sum(b[3], q[3], b[0], q[0], b[1], q[1], b[2], q[2]).Sign() < 0 {
		return out.reversed()
	}
	return out
}

// book is the rules over again, from the lowest layer on, with exact numbers, for a
// joint that may be and places that are there; whether a work would be Bad.
func book(j api.Joint, a, b int, l []api.Body) (rows []api.Row, bad bool) {
	defer func() {
		if r := recover(); r != nil {
			_ = r.(tooGreat)
			rows, bad = nil, true
		}
	}()
	turnA, turnB := partsOfTurn(l[a].Pose.Turn), partsOfTurn(l[b].Pose.Turn)
	armA, armB := turnA.turned(partsOfVec(j.AtA)), turnB.turned(partsOfVec(j.AtB))
	pointA, pointB := partsOfVec(l[a].Pose.At).plus(armA), partsOfVec(l[b].Pose.At).plus(armB)
	gap := pointB.plus(pointA.reversed())
	pushes := api.Row{A: a, B: b, Of: -1, ArmA: armA.vec(), ArmB: armB.vec()}
	twists := api.Row{A: a, B: b, Of: -1, Turn: true}
	if j.Kind == api.Rope {
		return ropeInBook(pushes, gap, j.Long), false
	}
	rows = heldInBook(rows, pushes, gap, 0, 1, 2)
	if j.Kind == api.Hinge {
		rows = hingeInBook(rows, twists, turnA.turned(partsOfVec(j.AxisA)), turnB.turned(partsOfVec(j.AxisB)), j)
	}
	if j.Kind == api.Weld {
		half := turnA.turnsTo(turnB)
		rows = heldInBook(rows, twists, half.plus(half), 0, 1, 2)
	}
	return rows, false
}

func ropeInBook(r api.Row, gap parts, long int) []api.Row {
	beyond := new(big.Int).Sub(gap.long(), exact(long))
	if beyond.Sign() <= 0 {
		return nil
	}
	r.Way, r.Low = gap.unit().vec(), -1<<44
	r.Goal = int(told(beyond.Mul(beyond, exact(-8))).Int64())
	return []api.Row{r}
}

// heldInBook adds rows along X, Y or Z.
func heldInBook(rows []api.Row, r api.Row, off parts, along ...int) []api.Row {
	goals := off.eightBack()
	r.Low, r.High = -1<<44, 1<<44
	for _, i := range along {
		r.Way, r.Goal = [3]api.Vec{{X: one}, {Y: one}, {Z: one}}[i], int(goals[i].Int64())
		rows = append(rows, r)
	}
	return rows
}

func hingeInBook(rows []api.Row, r api.Row, a, b parts, j api.Joint) []api.Row {
	s := parts{exact(one), exact(0), exact(0)}
	switch x, y, z := a[0], a[1], a[2]; {
	case x.CmpAbs(y) <= 0 && x.CmpAbs(z) <= 0:
	case y.CmpAbs(z) <= 0:
		s = parts{exact(0), exact(one), exact(0)}
	default:
		s = parts{exact(0), exact(0), exact(one)}
	}
	t := a.cross(s).unit()
	goals := a.cross(b).eightBack()
	r.Low, r.High = -1<<44, 1<<44
	for _, way := range []parts{t, a.cross(t)} {
		r.Way, r.Goal = way.vec(), int(way.dot(goals).Int64())
		rows = append(rows, r)
	}
	if j.Force > 0 {
		r.Way, r.Goal, r.Low, r.High = a.vec(), j.Motor, -j.Force, j.Force
		rows = append(rows, r)
	}
	return rows
}
