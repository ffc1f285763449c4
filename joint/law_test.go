package joint_test

import (
	"math"
	"reflect"
	"testing"

	"tumbler/api"
	"tumbler/fx"
	"tumbler/joint"
	"tumbler/vec"
)

// dice tells numbers, the same ones each time.
type dice uint64

func (d *dice) below(n int) int {
	*d = *d*6364136223846793005 + 1442695040888963407
	mixed := (uint64(*d) ^ uint64(*d)>>29) * 0xbf58476d1ce4e5b9
	return int(mixed>>1) % n
}

// part is a number of a size of at most n.
func (d *dice) part(n int) int { return d.below(2*n+1) - n }

// long is a number of any length up to 2^n.
func (d *dice) long(n int) int { return d.part(1 << d.below(n+1)) }

// number is one of any length up to 2^n; at times it is any at all, or one of the
// ends.
func (d *dice) number(n int) int {
	switch d.below(400) {
	case 0:
		return d.part(1 << 61)
	case 1:
		return []int{most, -most, most + 1, -most - 1, math.MinInt, math.MaxInt, 1 << 59, -1 << 59, 0, 1, -1}[d.below(11)]
	}
	return d.long(n)
}

func (d *dice) vec(n int) api.Vec { return v(d.number(n), d.number(n), d.number(n)) }

func (d *dice) tame(n int) api.Vec { return v(d.long(n), d.long(n), d.long(n)) }

// whole is a turn of a Norm of One.
func (d *dice) whole() api.Quat {
	for {
		w := &fx.Work{}
		if x := vec.Whole(w, api.Quat{W: d.part(one), X: d.part(one), Y: d.part(one), Z: d.part(one)}); !w.Bad {
			return x
		}
	}
}

// turn is mostly a whole one.
func (d *dice) turn() api.Quat {
	switch d.below(20) {
	case 0:
		return api.Quat{W: d.number(50), X: d.number(50), Y: d.number(50), Z: d.number(50)}
	case 1:
		return []api.Quat{{}, {W: one}, {W: -one}, {X: one}, {Y: -one}, {Z: one}, round(), unround()}[d.below(8)]
	}
	return d.whole()
}

// axis is a direction as long as One; at times one of the parts is nought, or two are
// the same.
func (d *dice) axis() api.Vec {
	for {
		x := v(d.part(one), d.part(one), d.part(one))
		switch d.below(6) {
		case 0:
			*partsOf(&x)[d.below(3)] = 0
		case 1:
			x.X, x.Y = x.Y, -x.Y
		case 2:
			x.Z = x.Y
		case 3:
			x.X = x.Z
		}
		w := &fx.Work{}
		x = vec.Unit(w, x)
		if long := vec.Len(w, x); one-8 <= long && long <= one+8 {
			return x
		}
	}
}

// joint is one that may be.
func (d *dice) joint() api.Joint {
	j := api.Joint{
		Kind: 1 + d.below(4), A: api.Handle(1 + d.below(5)), B: api.Handle(6 + d.below(5)), AtA: d.tame(37), AtB: d.tame(37),
		AxisA: d.axis(), AxisB: d.axis(), Long: d.below(1<<d.below(43) + 1), Motor: d.long(36), Force: d.below(1 << d.below(45)),
	}
	if j.Kind != api.Hinge && d.below(3) == 0 {
		j.AxisA, j.AxisB = d.vec(62), d.vec(62)
	}
	return j
}

func (d *dice) body() api.Body {
	b := at(d.vec(42), d.turn())
	b.Kind = d.below(3)
	return b
}

// TestJ2Exactly holds the rows against exact numbers.
func TestJ2Exactly(t *testing.T) {
	var told, none, bad [5]int
	d := dice(1)
	for range 60000 {
		j, l := d.joint(), list(d.body(), d.body(), d.body())
		a := d.below(3)
		b := (a + 1 + d.below(2)) % 3
		w := &fx.Work{}
		want, isBad := book(j, a, b, l)
		got := joint.Rows(w, j, a, b, l)
		if !same(got, want) || w.Bad != isBad {
			t.Fatalf("%+v of %d and %d of %+v: %+v, Bad %v; not %+v, Bad %v", j, a, b, l, got, w.Bad, want, isBad)
		}
		switch {
		case isBad:
			bad[j.Kind]++
		case len(want) == 0:
			none[j.Kind]++
		default:
			told[j.Kind]++
		}
	}
	for _, kind := range kinds() {
		if told[kind] < 5000 || bad[kind] < 500 || (none[kind] > 1000) != (kind == api.Rope) {
			t.Errorf("%d: too few of one kind: %d, %d, %d", kind, told[kind], none[kind], bad[kind])
		}
	}
}

// places are all numbers of a joint and of the poses of two bodies.
func places(j *api.Joint, l []api.Body) []*int {
	out := []*int{&j.Kind, &j.Long, &j.Motor, &j.Force}
	for _, x := range []*api.Vec{&j.AtA, &j.AtB, &j.AxisA, &j.AxisB, &l[0].Pose.At, &l[1].Pose.At} {
		out = append(out, partsOf(x)...)
	}
	for i := range l {
		q := &l[i].Pose.Turn
		out = append(out, &q.W, &q.X, &q.Y, &q.Z)
	}
	return out
}

// TestJ2AtTheEnds lays what is just within and just beyond into each place.
func TestJ2AtTheEnds(t *testing.T) {
	ends := []int{0, 1, -1, 2, one, -one, 1 << 37, 1 << 42, 1 << 44, 1 << 45, 1 << 47, 1 << 48, 1 << 58, 1<<59 - 1, 1 << 59, -1 << 59, 1<<61 - 1, 1 << 61, most, -most, most + 1, -most - 1, math.MaxInt, math.MinInt}
	told, none, bad := 0, 0, 0
	start := func(kind, n int) (api.Joint, []api.Body) {
		l := [][]api.Body{turned(straight(), straight()), list(at(v(one, -2*one, 3*one), round()), at(v(5*one, one, one), over()))}[n%2]
		j := plain(kind)
		if n/2 == 1 {
			j.AtA, j.AtB, j.Motor, j.Force = v(one, 2*one, 0), v(-one, 0, one), 5, 7
		}
		return j, l
	}
	for _, kind := range kinds() {
		for n := range 4 {
			j, l := start(kind, n)
			for place := range places(&j, l) {
				for _, end := range ends {
					j, l := start(kind, n)
					*places(&j, l)[place] = end
					var want []api.Row
					isBad := false
					if joint.Check(j) == api.OK {
						want, isBad = book(j, 0, 1, l)
					}
					w := &fx.Work{}
					if got := joint.Rows(w, j, 0, 1, l); !same(got, want) || w.Bad != isBad {
						t.Fatalf("%+v of %+v: %+v, Bad %v; not %+v, Bad %v", j, l, got, w.Bad, want, isBad)
					}
					switch {
					case isBad:
						bad++
					case len(want) == 0:
						none++
					default:
						told++
					}
				}
			}
		}
	}
	if told < 3000 || none < 1000 || bad < 1000 {
		t.Error("too few of one kind:", told, none, bad)
	}
}

// TestJ3AsWished: a joint whose bodies stand as it wishes has no Goal but nought. (A
// motor's is its speed.)
func TestJ3AsWished(t *testing.T) {
	d := dice(2)
	for range 8000 {
		j, w, turn := d.joint(), &fx.Work{}, d.whole()
		j.Motor = 0
		if j.Kind == api.Hinge {
			j.AxisB = j.AxisA
		}
		m := vec.Rows(w, turn)
		a := d.tame(40)
		b := vec.Sub(w, vec.Add(w, a, vec.Turn(w, m, j.AtA)), vec.Turn(w, m, j.AtB))
		rows := joint.Rows(w, j, 0, 1, list(at(a, turn), at(b, turn)))
		if w.Bad || (len(rows) == 0) != (j.Kind == api.Rope) {
			t.Fatalf("%+v: %+v, Bad %v", j, rows, w.Bad)
		}
		for _, r := range rows {
			if r.Goal != 0 {
				t.Fatalf("%+v: %+v", j, rows)
			}
		}
	}
}

// TestJ3NotTaut: a rope has rows if, and only if, its ends are further apart than it
// is long.
func TestJ3NotTaut(t *testing.T) {
	d, taut := dice(3), 0
	for range 8000 {
		j, l, w := d.joint(), list(at(d.tame(40), d.whole()), at(d.tame(40), d.whole())), &fx.Work{}
		j.Kind = api.Rope
		end := func(i int, a api.Vec) api.Vec {
			return vec.Add(w, l[i].Pose.At, vec.Turn(w, vec.Rows(w, l[i].Pose.Turn), a))
		}
		far := vec.Len(w, vec.Sub(w, end(1, j.AtB), end(0, j.AtA)))
		if d.below(2) == 0 {
			j.Long = max(0, far+d.part(1)) // where it just is or just is not
		}
		if j.Long > 1<<42 {
			continue
		}
		if rows := joint.Rows(w, j, 0, 1, l); (len(rows) == 1) != (far > j.Long) || len(rows) > 1 || w.Bad {
			t.Fatalf("%+v: %d: %+v", j, far, rows)
		}
		if far > j.Long {
			taut++
		}
	}
	if taut < 2000 || taut > 6000 {
		t.Error("too few of one kind:", taut)
	}
}

// about0 is whether two numbers sum up to 0, or to -1, both being told down.
func about0(n, m int) bool { return n+m == 0 || n+m == -1 }

// TestJ3TurnedAbout: a rope with A for B wishes the same, the other way round.
func TestJ3TurnedAbout(t *testing.T) {
	d, taut := dice(4), 0
	for range 8000 {
		j, l, w := d.joint(), list(at(d.tame(40), d.whole()), at(d.tame(40), d.whole())), &fx.Work{}
		j.Kind = api.Rope
		there := joint.Rows(w, j, 0, 1, l)
		j.A, j.B, j.AtA, j.AtB = j.B, j.A, j.AtB, j.AtA
		back := joint.Rows(w, j, 1, 0, l)
		if len(there) != len(back) || w.Bad {
			t.Fatalf("%+v: %+v and %+v, Bad %v", j, there, back, w.Bad)
		}
		if len(there) == 0 {
			continue
		}
		taut++
		x, y := there[0], back[0]
		if !about0(x.Way.X, y.Way.X) || !about0(x.Way.Y, y.Way.Y) || !about0(x.Way.Z, y.Way.Z) {
			t.Fatalf("%+v: %v and %v", j, x.Way, y.Way)
		}
		y.A, y.B, y.Way, y.ArmA, y.ArmB = y.B, y.A, x.Way, y.ArmB, y.ArmA
		if x != y {
			t.Fatalf("%+v: %+v and %+v", j, x, y)
		}
	}
	if taut < 2000 {
		t.Error("too few:", taut)
	}
}

// TestJ3Unchanged: rows change no body.
func TestJ3Unchanged(t *testing.T) {
	for seed := range 4000 {
		d, again := dice(seed), dice(seed)
		l, was := list(d.body(), d.body()), list(again.body(), again.body())
		joint.Rows(&fx.Work{}, d.joint(), d.below(2), d.below(2), l)
		if !reflect.DeepEqual(l, was) {
			t.Fatalf("%+v, then %+v", was, l)
		}
	}
}
