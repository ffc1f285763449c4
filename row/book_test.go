package row_test

import (
	"math/big"

	"tumbler/api"
)

func exact(n int) *big.Int { return big.NewInt(int64(n)) }

// three are a vector's parts.
type three [3]int

func threeOf(a api.Vec) three { return three{a.X, a.Y, a.Z} }

func (x three) vec() api.Vec { return v(x[0], x[1], x[2]) }

// book is the rules over again, from the lowest layer on, with exact numbers; it is
// bad where a work would be.
type book struct{ bad bool }

func (b *book) tell(n *big.Int) int {
	if n.CmpAbs(exact(most)) > 0 {
		b.bad = true
		return 0
	}
	return int(n.Int64())
}

// great is whether one of l is, and marks the book then.
func (b *book) great(l ...int) bool {
	is := false
	for _, n := range l {
		is = is || exact(n).CmpAbs(exact(most)) > 0
	}
	b.bad = b.bad || is
	return is
}

// vector is how layer 2 tells one: all noughts, if a part of it could not be told.
func (b *book) vector(do func(b *book, i int) int) three {
	own := &book{}
	var out three
	for i := range out {
		out[i] = do(own, i)
	}
	if own.bad {
		b.bad, out = true, three{}
	}
	return out
}

// sum is that of products, by One, down.
func (b *book) sum(pairs ...int) int {
	if b.great(pairs...) {
		return 0
	}
	n := new(big.Int)
	for i := 0; i < len(pairs); i += 2 {
		n.Add(n, new(big.Int).Mul(exact(pairs[i]), exact(pairs[i+1])))
	}
	return b.tell(n.Rsh(n, 32))
}

// over is n by m, down.
func (b *book) over(n, m int) int {
	if m == 0 || b.great(n, m) {
		b.bad = true
		return 0
	}
	up, down := new(big.Int).Lsh(exact(n), 32), exact(m)
	if m < 0 {
		up.Neg(up)
		down.Neg(down)
	}
	return b.tell(up.Div(up, down)) // Euclid's: of a divisor above 0 it is down
}

// plus is n and m, times -1 or not.
func (b *book) plus(n, m, times int) int {
	if b.great(n, m) {
		return 0
	}
	return b.tell(new(big.Int).Add(exact(n), exact(m*times)))
}

func (b *book) added(x, y three, times int) three {
	return b.vector(func(b *book, i int) int { return b.plus(x[i], y[i], times) })
}

func (b *book) dot(x, y three) int { return b.sum(x[0], y[0], x[1], y[1], x[2], y[2]) }

func (b *book) cross(x, y three) three {
	if b.great(x[0], x[1], x[2], y[0], y[1], y[2]) {
		return three{}
	}
	return b.vector(func(b *book, i int) int {
		j, k := (i+1)%3, (i+2)%3
		return b.sum(x[j], y[k], x[k], -y[j])
	})
}

// rows are those of a turn, told by its axis going round.
func (b *book) rows(q api.Quat) [3]three {
	own := &book{}
	for _, n := range []int{q.W, q.X, q.Y, q.Z} {
		own.tell(new(big.Int).Lsh(exact(n), 1))
	}
	var m [3]three
	axis := three{q.X, q.Y, q.Z}
	for i := range 3 {
		if own.bad {
			break
		}
		j, k := (i+1)%3, (i+2)%3
		m[i][i] = own.plus(one, own.sum(2*axis[j], axis[j], 2*axis[k], axis[k]), -1)
		m[i][j] = own.sum(2*axis[i], axis[j], 2*q.W, -axis[k])
		m[i][k] = own.sum(2*axis[i], axis[k], 2*q.W, axis[j])
	}
	if own.bad {
		b.bad = true
		return [3]three{}
	}
	return m
}

// parted is each part of x by that of y: told one by one.
func (b *book) parted(x, y three) three {
	for i := range x {
		x[i] = b.over(x[i], y[i])
	}
	return x
}

func (b *book) yield(of api.Body, l three) three {
	m := b.rows(of.Pose.Turn)
	own := b.vector(func(b *book, i int) int { return b.sum(m[0][i], l[0], m[1][i], l[1], m[2][i], l[2]) })
	own = b.parted(own, threeOf(of.Mass.Inertia))
	return b.vector(func(b *book, i int) int { return b.dot(m[i], own) })
}

// mover is who of l is at a place; nobody is nil, and so is who does not move.
func mover(l []api.Body, place int) *api.Body {
	for i := range l {
		if i == place && l[i].Kind == api.Moving {
			return &l[i]
		}
	}
	return nil
}

// pace is a body's spin, or its speed at an arm.
func (b *book) pace(of *api.Body, arm api.Vec, turn bool) three {
	var speed, spin three
	if of != nil {
		spin = b.yield(*of, threeOf(of.L))
	}
	if turn {
		return spin
	}
	if of != nil {
		m := of.Mass.Mass
		speed = b.parted(threeOf(of.P), three{m, m, m})
	}
	return b.added(speed, b.cross(spin, threeOf(arm)), 1)
}

func (b *book) rate(r api.Row, l []api.Body) int {
	x, y := b.pace(mover(l, r.A), r.ArmA, r.Turn), b.pace(mover(l, r.B), r.ArmB, r.Turn)
	return b.dot(threeOf(r.Way), b.added(y, x, -1))
}

func (b *book) weight(r api.Row, l []api.Body) int {
	sum, way := 0, threeOf(r.Way)
	part := func(of *api.Body, arm api.Vec) {
		switch {
		case of == nil:
		case r.Turn:
			sum = b.plus(sum, b.dot(way, b.yield(*of, way)), 1)
		default:
			sum = b.plus(sum, b.over(one, of.Mass.Mass), 1)
			c := b.cross(threeOf(arm), way)
			sum = b.plus(sum, b.dot(c, b.yield(*of, c)), 1)
		}
	}
	part(mover(l, r.A), r.ArmA)
	part(mover(l, r.B), r.ArmB)
	return sum
}

func (b *book) ends(rows []api.Row, n int) (int, int) {
	for i := range n {
		if rows[n].Of == i {
			m := b.sum(rows[n].Rub, rows[i].Sum)
			if m < 0 {
				m = 0
			}
			return -m, m
		}
	}
	if rows[n].High < rows[n].Low {
		return rows[n].Low, rows[n].Low
	}
	return rows[n].Low, rows[n].High
}

func (b *book) wish(rows []api.Row, n int, l []api.Body) int {
	r := rows[n]
	weight := b.weight(r, l)
	if weight < 64 {
		return r.Sum
	}
	sum := b.plus(r.Sum, b.over(b.plus(r.Goal, b.rate(r, l), -1), weight), 1)
	switch low, high := b.ends(rows, n); {
	case sum < low:
		return low
	case sum > high:
		return high
	}
	return sum
}

// given is a body that gets an impulse, times -1 or not.
func (b *book) given(of *api.Body, arm api.Vec, impulse three, times int, turn bool) {
	if of == nil {
		return
	}
	for i := range impulse {
		impulse[i] *= times
	}
	turns := impulse
	if !turn {
		of.P = b.added(threeOf(of.P), impulse, 1).vec()
		turns = b.cross(threeOf(arm), impulse)
	}
	of.L = b.added(threeOf(of.L), turns, 1).vec()
}

// solve works on copies: what it answers are both lists.
func (b *book) solve(x lists, n int) lists {
	out := x.copied()
	r := &out.rows[n]
	wish := b.wish(x.rows, n, x.l)
	d := b.plus(wish, r.Sum, -1)
	impulse := b.vector(func(b *book, i int) int { return b.sum(threeOf(r.Way)[i], d) })
	b.given(mover(out.l, r.B), r.ArmB, impulse, 1, r.Turn)
	b.given(mover(out.l, r.A), r.ArmA, impulse, -1, r.Turn)
	r.Sum = wish
	if b.bad {
		return x
	}
	return out
}
