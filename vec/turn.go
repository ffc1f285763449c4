package vec

import (
	"tumbler/api"
	"tumbler/fx"
)

// minWhole is the least Norm of a turn that can be made whole: half of One.
const minWhole = api.One / 2

// Times is the turn q, and behind it p.
func Times(w *fx.Work, p, q api.Quat) api.Quat {
	var own fx.Work
	l, minus := []int{p.W, p.X, p.Y, p.Z}, eachOfTurn(own.Sub, api.Quat{}, q)
	return tell(w, &own, api.Quat{
		W: own.Dot(l, []int{q.W, minus.X, minus.Y, minus.Z}),
		X: own.Dot(l, []int{q.X, q.W, q.Z, minus.Y}),
		Y: own.Dot(l, []int{q.Y, minus.Z, q.W, q.X}),
		Z: own.Dot(l, []int{q.Z, q.Y, minus.X, q.W}),
	})
}

// Whole is q made as long as One.
func Whole(w *fx.Work, q api.Quat) api.Quat {
	var own fx.Work
	n := own.Norm(q.W, q.X, q.Y, q.Z)
	if n < minWhole {
		w.Bad = true
		return api.Quat{}
	}
	return tell(w, &own, eachOfTurn(own.Div, q, api.Quat{W: n, X: n, Y: n, Z: n}))
}

// Rows is the matrix that turns as the whole turn q does.
func Rows(w *fx.Work, q api.Quat) api.Mat {
	var own fx.Work
	two, minus := eachOfTurn(own.Add, q, q), eachOfTurn(own.Sub, api.Quat{}, q)
	return tell(w, &own, api.Mat{
		{
			X: own.Sub(api.One, own.Dot([]int{two.Y, two.Z}, []int{q.Y, q.Z})),
			Y: own.Dot([]int{two.X, two.W}, []int{q.Y, minus.Z}),
			Z: own.Dot([]int{two.X, two.W}, []int{q.Z, q.Y}),
		},
		{
			X: own.Dot([]int{two.X, two.W}, []int{q.Y, q.Z}),
			Y: own.Sub(api.One, own.Dot([]int{two.X, two.Z}, []int{q.X, q.Z})),
			Z: own.Dot([]int{two.Y, two.W}, []int{q.Z, minus.X}),
		},
		{
			X: own.Dot([]int{two.X, two.W}, []int{q.Z, minus.Y}),
			Y: own.Dot([]int{two.Y, two.W}, []int{q.Z, q.X}),
			Z: own.Sub(api.One, own.Dot([]int{two.X, two.Y}, []int{q.X, q.Y})),
		},
	})
}

// Turn is a, turned by m.
func Turn(w *fx.Work, m api.Mat, a api.Vec) api.Vec {
	var own fx.Work
	return tell(w, &own, api.Vec{X: Dot(&own, m[0], a), Y: Dot(&own, m[1], a), Z: Dot(&own, m[2], a)})
}

// Back is a, turned back by m: the columns of what turns are the rows of what
// turns back.
func Back(w *fx.Work, m api.Mat, a api.Vec) api.Vec {
	return Turn(w, api.Mat{
		{X: m[0].X, Y: m[1].X, Z: m[2].X},
		{X: m[0].Y, Y: m[1].Y, Z: m[2].Y},
		{X: m[0].Z, Y: m[1].Z, Z: m[2].Z},
	}, a)
}

// Spin is q, turned on: half is half of the way's vector. (Where Times has no
// turn to tell, Whole is asked about noughts, and has none either.)
func Spin(w *fx.Work, q api.Quat, half api.Vec) api.Quat {
	return Whole(w, Times(w, api.Quat{W: api.One, X: half.X, Y: half.Y, Z: half.Z}, q))
}

// eachOfTurn does the same with each part of p and the part of q that stands
// there.
func eachOfTurn(do func(a, b int) int, p, q api.Quat) api.Quat {
	return api.Quat{W: do(p.W, q.W), X: do(p.X, q.X), Y: do(p.Y, q.Y), Z: do(p.Z, q.Z)}
}
