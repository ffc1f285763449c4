package chain_test

import (
	"math/big"

	"tumbler/api"
)

// parts are those of a vector, or of a turn, its W last.
type parts []*big.Int

// tooGreat is what the book panics with where a work would become Bad: of that nothing
// is told, whatever comes behind it.
type tooGreat struct{}

func exact(n int) *big.Int { return big.NewInt(int64(n)) }

// kept is n, unless it is too great.
func kept(n *big.Int) *big.Int {
	if n.CmpAbs(exact(most)) > 0 {
		panic(tooGreat{})
	}
	return n
}

func of(numbers ...int) parts {
	var out parts
	for _, n := range numbers {
		out = append(out, kept(exact(n)))
	}
	return out
}

func ofVec(a api.Vec) parts { return of(a.X, a.Y, a.Z) }

func (x parts) vec() api.Vec { return v(int(x[0].Int64()), int(x[1].Int64()), int(x[2].Int64())) }

func (x parts) turn() api.Quat {
	return api.Quat{W: int(x[3].Int64()), X: int(x[0].Int64()), Y: int(x[1].Int64()), Z: int(x[2].Int64())}
}

// sum is that of products, by One, down.
func sum(pairs ...*big.Int) *big.Int {
	n := new(big.Int)
	for i := 0; i < len(pairs); i += 2 {
		n.Add(n, new(big.Int).Mul(pairs[i], pairs[i+1]))
	}
	return kept(n.Rsh(n, 32))
}

func minus(n *big.Int) *big.Int { return new(big.Int).Neg(n) }

func twice(n *big.Int) *big.Int { return kept(new(big.Int).Lsh(n, 1)) }

func (x parts) plus(y parts) parts {
	var out parts
	for i := range 3 {
		out = append(out, kept(new(big.Int).Add(x[i], y[i])))
	}
	return out
}

func (x parts) less(y parts) parts {
	return x.plus(parts{minus(y[0]), minus(y[1]), minus(y[2])})
}

func (x parts) by(n int) parts {
	var out parts
	for i := range 3 {
		out = append(out, sum(x[i], kept(exact(n))))
	}
	return out
}

func (x parts) dot(y parts) *big.Int { return sum(x[0], y[0], x[1], y[1], x[2], y[2]) }

func (x parts) cross(y parts) parts {
	var out parts
	for i := range 3 {
		j, k := (i+1)%3, (i+2)%3
		out = append(out, sum(x[j], y[k], x[k], minus(y[j])))
	}
	return out
}

// whole is a turn, by how long it is.
func (q parts) whole() parts {
	n := new(big.Int)
	for _, p := range q {
		n.Add(n, new(big.Int).Mul(p, p))
	}
	n.Sqrt(n)
	var out parts
	for _, p := range q {
		up := new(big.Int).Lsh(p, 32)
		out = append(out, kept(up.Div(up, n))) // Euclid's: of a divisor above 0 it is down
	}
	return out
}

// behind is the turn p, behind which q stands, as Times has it.
func (p parts) behind(q parts) parts {
	out := make(parts, 4)
	for i := range 3 {
		j, k := (i+1)%3, (i+2)%3
		out[i] = sum(p[3], q[i], p[i], q[3], p[j], q[k], p[k], minus(q[j]))
	}
	out[3] = sum(p[3], q[3], p[0], minus(q[0]), p[1], minus(q[1]), p[2], minus(q[2]))
	return out
}

// turned is a, turned as the rows of q say, which are told by its axis going round.
func (q parts) turned(a parts) parts {
	out, w := make(parts, 3), twice(q[3])
	for i := range 3 {
		j, k := (i+1)%3, (i+2)%3
		row := make(parts, 3)
		row[i] = kept(new(big.Int).Sub(exact(one), sum(twice(q[j]), q[j], twice(q[k]), q[k])))
		row[j] = sum(twice(q[i]), q[j], w, minus(q[k]))
		row[k] = sum(twice(q[i]), q[k], w, q[j])
		out[i] = row.dot(a)
	}
	return out
}

// bookLink is what the rules tell of a link.
type bookLink struct {
	at, turn, axis, middle parts
	spin, joint, speed     parts
}

// linksInBook are the rules over again for links that may be, from the lowest layer
// on, with exact numbers.
func linksInBook(l []api.Link) []bookLink {
	all := []bookLink{{at: of(0, 0, 0), turn: of(0, 0, 0, one), spin: of(0, 0, 0), joint: of(0, 0, 0)}}
	for _, x := range l {
		on := all[x.Parent+1]
		b := bookLink{at: on.at.plus(on.turn.turned(ofVec(x.At))), turn: on.turn, axis: on.turn.turned(ofVec(x.Axis)), spin: on.spin}
		if x.Slides {
			b.at = b.at.plus(b.axis.by(x.Angle))
		} else {
			b.turn = on.turn.behind(append(ofVec(x.Axis).by(x.Angle), exact(one)).whole())
			b.spin = on.spin.plus(b.axis.by(x.Speed))
		}
		b.middle = b.at.plus(b.turn.turned(ofVec(x.Middle)))
		b.joint = on.joint.plus(on.spin.cross(b.at.less(on.at)))
		if x.Slides {
			b.joint = b.joint.plus(b.axis.by(x.Speed))
		}
		b.speed = b.joint.plus(b.spin.cross(b.middle.less(b.at)))
		all = append(all, b)
	}
	return all[1:]
}

// borneInBook are the force and the turn that a link's joint bears.
func borneInBook(l []api.Link, all []bookLink, pull api.Vec, place int) (force, turn parts) {
	force = ofVec(pull).by(l[place].Mass)
	turn = all[place].middle.less(all[place].at).cross(force)
	for c := place + 1; c < len(l); c++ {
		if l[c].Parent == place {
			f, s := borneInBook(l, all, pull, c)
			force = force.plus(f)
			turn = turn.plus(s).plus(all[c].at.less(all[place].at).cross(f))
		}
	}
	return force, turn
}

// loadsInBook adds the loads to the answers.
func loadsInBook(out *answers, l []api.Link, all []bookLink, pull api.Vec) {
	defer func() {
		if r := recover(); r != nil {
			_ = r.(tooGreat)
			out.forces, out.twists, out.along, out.bad = nil, nil, nil, true
		}
	}()
	for i, b := range all {
		force, turn := borneInBook(l, all, pull, i)
		out.forces, out.twists = append(out.forces, force.vec()), append(out.twists, turn.vec())
		if l[i].Slides {
			out.along = append(out.along, int(b.axis.dot(force).Int64()))
		} else {
			out.along = append(out.along, int(b.axis.dot(turn).Int64()))
		}
	}
}

// book is what all calls must tell of links that may be. (That no number but those of
// Loads is too great, it tells by a panic.)
func book(l []api.Link, pull api.Vec) answers {
	var out answers
	all, momentum := linksInBook(l), of(0, 0, 0)
	for i, b := range all {
		out.places = append(out.places, api.Pose{At: b.at.vec(), Turn: b.turn.turn()})
		out.middles = append(out.middles, b.middle.vec())
		out.spins, out.speeds = append(out.spins, b.spin.vec()), append(out.speeds, b.speed.vec())
		momentum = momentum.plus(b.speed.by(l[i].Mass))
	}
	out.momentum = momentum.vec()
	loadsInBook(&out, l, all, pull)
	return out
}
