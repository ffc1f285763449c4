package tree_test

import (
	"maps"
	"math"
	"reflect"
	"slices"
	"testing"

	"tumbler/api"
	"tumbler/tree"
)

// dice tells numbers below n, the same ones each time.
type dice uint64

func (d *dice) below(n int) int {
	*d = *d*6364136223846793005 + 1442695040888963407
	mixed := (uint64(*d) ^ uint64(*d)>>29) * 0xbf58476d1ce4e5b9
	return int(mixed>>1) % n
}

// part is a number of a size of at most n.
func (d *dice) part(n int) int { return d.below(2*n+1) - n }

func (d *dice) point(n int) api.Point { return p(d.part(n), d.part(n), d.part(n)) }

// size is of a room: a narrow one, in which all meet, or a wide one.
func (d *dice) size() int { return []int{40, 300, 1500, 20000, far}[d.below(5)] }

// good is a box that may be, that begins within that room.
func (d *dice) good(size int) api.Box {
	a := d.point(size)
	wide := 1 + size/[]int{1, 8}[d.below(2)]
	most := func(from int) int { return min(from+d.below(wide), far) }
	return box(a.X, a.Y, a.Z, most(a.X), most(a.Y), most(a.Z))
}

// box is such a one; at times something is wrong with it.
func (d *dice) box(size int) api.Box {
	b := d.good(size)
	if d.below(15) == 0 {
		*sides(&b)[d.below(6)] = []int{far + 1, -far - 1, math.MaxInt, math.MinInt, 0, far, -far}[d.below(7)]
	}
	return b
}

// near is a box not far from one.
func (d *dice) near(b api.Box) api.Box {
	by := d.point(90)
	for i, n := range sides(&b) {
		*n += []int{by.X, by.Y, by.Z}[i%3]
	}
	return b
}

// book is a tree's rules over again: a list of boxes, without a tree.
type book struct {
	room int
	wide map[api.Handle]api.Box
}

func newBook(room int) *book { return &book{room, map[api.Handle]api.Box{}} }

func (b *book) mayBe(q api.Box) bool {
	s := sides(&q)
	for i, n := range s {
		if *n > far || *n < -far || i < 3 && *n > *s[i+3] {
			return false
		}
	}
	return true
}

func (b *book) put(h api.Handle, q api.Box) api.Errno {
	_, is := b.wide[h]
	switch {
	case h < 1, is, !b.mayBe(q):
		return api.ErrArg
	case len(b.wide) == b.room:
		return api.ErrTreeFull
	}
	b.wide[h] = wide(q)
	return api.OK
}

func (b *book) move(h api.Handle, q api.Box) (bool, api.Errno) {
	w, is := b.wide[h]
	if !is {
		return false, api.ErrTreeNone
	}
	if !b.mayBe(q) {
		return false, api.ErrArg
	}
	if w.Min.X <= q.Min.X && w.Min.Y <= q.Min.Y && w.Min.Z <= q.Min.Z && q.Max.X <= w.Max.X && q.Max.Y <= w.Max.Y && q.Max.Z <= w.Max.Z {
		return false, api.OK
	}
	b.wide[h] = wide(q)
	return true, api.OK
}

func (b *book) drop(h api.Handle) api.Errno {
	if _, is := b.wide[h]; !is {
		return api.ErrTreeNone
	}
	delete(b.wide, h)
	return api.OK
}

func (b *book) handles() []api.Handle { return slices.Sorted(maps.Keys(b.wide)) }

func meet(q, r api.Box) bool {
	s, u := sides(&q), sides(&r)
	for i := range 3 {
		if *s[i] > *u[i+3] || *u[i] > *s[i+3] {
			return false
		}
	}
	return true
}

func (b *book) find(q api.Box) []api.Handle {
	var out []api.Handle
	for _, h := range b.handles() {
		if meet(b.wide[h], q) {
			out = append(out, h)
		}
	}
	return out
}

func (b *book) pairs() []api.Pair {
	var out []api.Pair
	l := b.handles()
	for i, h := range l {
		for _, o := range l[i+1:] {
			if meet(b.wide[h], b.wide[o]) {
				out = append(out, api.Pair{A: h, B: o})
			}
		}
	}
	return out
}

// agree holds all that a tree tells against the book.
func (b *book) agree(t *testing.T, d *dice, x *tree.Tree, size int) {
	t.Helper()
	lenIs(t, x, len(b.wide))
	for h, w := range b.wide {
		hasWide(t, x, h, w)
	}
	hasNot(t, x, 77777)
	finds(t, x, everything(), b.handles()...)
	q := d.box(size)
	finds(t, x, q, b.find(q)...)
	q = api.Box{Min: d.point(size), Max: d.point(size)}
	finds(t, x, q, b.find(q)...)
	if got := x.Pairs(); !slices.Equal(got, b.pairs()) {
		t.Errorf("Pairs: %v, not %v", got, b.pairs())
	}
	if t.Failed() {
		t.FailNow()
	}
}

// act does one thing to a tree and to its book.
func (b *book) act(t *testing.T, d *dice, x *tree.Tree, size int) {
	t.Helper()
	h := api.Handle(d.below(3*b.room) - 1)
	if l := b.handles(); len(l) > 0 && d.below(3) > 0 {
		h = l[d.below(len(l))]
	}
	q := d.box(size)
	switch d.below(8) {
	case 0:
		drops(t, x, h, b.drop(h))
	case 1, 2, 3:
		puts(t, x, h, q, b.put(h, q))
	case 4:
		if w, is := b.wide[h]; is {
			q = d.near(box(w.Min.X+margin, w.Min.Y+margin, w.Min.Z+margin, w.Max.X-margin, w.Max.Y-margin, w.Max.Z-margin))
		}
		fallthrough
	default:
		want, e := b.move(h, q)
		moves(t, x, h, q, want, e)
	}
}

func TestB1ToB3Exactly(t *testing.T) {
	d := dice(1)
	for _, room := range []int{1, 2, 3, 5, 12, 30, 70} {
		for range 25 {
			x, b, size := made(t, room), newBook(room), d.size()
			for range 250 {
				b.act(t, &d, x, size)
				b.agree(t, &d, x, size)
			}
		}
	}
}

// TestMany: trees that are as full as can be, put in, moved and dropped in other
// orders.
func TestMany(t *testing.T) {
	const many = 1024
	d := dice(2)
	for _, size := range []int{300, 20000, far} {
		x, b := made(t, many), newBook(many)
		for len(b.wide) < many {
			h, q := api.Handle(1+d.below(5*many)), d.box(size)
			puts(t, x, h, q, b.put(h, q))
		}
		b.agree(t, &d, x, size)
		for range 3000 {
			b.act(t, &d, x, size)
		}
		b.agree(t, &d, x, size)
		for len(b.wide) > 0 {
			l := b.handles()
			h := l[d.below(len(l))]
			drops(t, x, h, b.drop(h))
			q := d.box(size)
			finds(t, x, q, b.find(q)...)
		}
		b.agree(t, &d, x, size)
	}
}

// TestB4Meet: two whose boxes meet are a pair, wherever they have moved.
func TestB4Meet(t *testing.T) {
	d := dice(3)
	met := 0
	for range 60 {
		x, now, size := made(t, 20), map[api.Handle]api.Box{}, []int{40, 300, 1500}[d.below(3)]
		for range 150 {
			h, q := api.Handle(1+d.below(20)), d.box(size)
			if old, is := now[h]; is && d.below(2) == 0 {
				q = d.near(old)
			}
			if x.Put(h, q) == api.OK {
				now[h] = q
			} else if _, e := x.Move(h, q); e == api.OK {
				now[h] = q
			}
			all := x.Pairs()
			for a, q := range now {
				for b, r := range now {
					if a < b && meet(q, r) {
						met++
						if !slices.Contains(all, api.Pair{A: a, B: b}) {
							t.Fatal(a, q, b, r, all)
						}
					}
				}
				if !slices.Contains(x.Find(q), a) {
					t.Fatal(a, q, x.Find(q))
				}
			}
		}
	}
	if met < 1000 {
		t.Error("too few met:", met)
	}
}

// TestB4Little: who moves by less than 64 grains since his wide box was made changes
// nothing, to whatever side he moves, and however often.
func TestB4Little(t *testing.T) {
	d := dice(4)
	for range 40 {
		x, size := made(t, 12), 1500
		var first []api.Box
		for len(first) < 12 {
			first = append(first, d.good(size))
			puts(t, x, api.Handle(len(first)), first[len(first)-1], api.OK)
		}
		before := tell(x)
		for range 200 {
			i, by := d.below(12), d.point(63)
			q := first[i]
			for j, n := range sides(&q) {
				*n += []int{by.X, by.Y, by.Z}[j%3]
			}
			moves(t, x, api.Handle(i+1), q, false, api.OK)
		}
		if !reflect.DeepEqual(tell(x), before) {
			t.Fatal("something has changed")
		}
	}
}

// TestB4Order: in whatever order boxes were put, and whatever was there before, the
// same are found.
func TestB4Order(t *testing.T) {
	d := dice(5)
	for range 80 {
		size := d.size()
		there := map[api.Handle]api.Box{}
		for range 1 + d.below(40) {
			if q := d.box(size); newBook(1).mayBe(q) {
				there[api.Handle(1+d.below(100))] = q
			}
		}
		handles := slices.Sorted(maps.Keys(there))
		var want told
		for i := range 4 {
			x := made(t, 200)
			for j := range 30 * i {
				x.Put(api.Handle(300+j), d.box(size))
			}
			for j := range handles { // shuffled
				k := j + d.below(len(handles)-j)
				handles[j], handles[k] = handles[k], handles[j]
				puts(t, x, handles[j], there[handles[j]], api.OK)
			}
			for j := range 30 * i {
				x.Drop(api.Handle(300 + j))
			}
			if got := tell(x); i == 0 {
				want = got
			} else if !reflect.DeepEqual(got, want) {
				t.Fatal(got, want)
			}
		}
	}
}

// told is all that a tree tells.
type told struct {
	many  int
	all   []api.Handle
	wide  []api.Box
	found [][]api.Handle
	pairs []api.Pair
}

func tell(x *tree.Tree) told {
	out := told{many: x.Len(), all: x.Find(everything()), pairs: x.Pairs()}
	for _, h := range out.all {
		w, _ := x.Wide(h)
		out.wide = append(out.wide, w)
		out.found = append(out.found, x.Find(w), x.Find(api.Box{Min: w.Max, Max: w.Min}))
	}
	return out
}

// filled is a tree with some boxes that meet, and some that don't.
func filled(t *testing.T, d *dice) *tree.Tree {
	x := made(t, 30)
	for i := range 25 {
		x.Put(api.Handle(i+1), d.box(400))
	}
	return x
}

// TestRefused: a call that answers an error, or only asks, changes nothing.
func TestRefused(t *testing.T) {
	d := dice(6)
	for range 20 {
		x := filled(t, &d)
		before := tell(x)
		for _, b := range mayNotBe() {
			puts(t, x, 99, b, api.ErrArg)
			moves(t, x, before.all[0], b, false, api.ErrArg)
			x.Find(b)
		}
		puts(t, x, before.all[0], cube(5000), api.ErrArg)
		puts(t, x, 0, cube(5000), api.ErrArg)
		moves(t, x, 99, cube(5000), false, api.ErrTreeNone)
		drops(t, x, 99, api.ErrTreeNone)
		hasNot(t, x, 99)
		if !reflect.DeepEqual(tell(x), before) {
			t.Fatal("the tree has changed")
		}
	}
}

// overwritten is a list with all its spare room written over, and more behind it.
func overwritten[T any](l []T, x T) []T {
	l = l[:cap(l)]
	for i := range l {
		l[i] = x
	}
	return append(l, x)
}

// TestNewMemory: whoever writes into an answer, or grows it, changes no other one,
// nor the tree.
func TestNewMemory(t *testing.T) {
	d := dice(7)
	x := filled(t, &d)
	before := tell(x)
	for range 3 {
		one, other := x.Find(everything()), x.Find(everything())
		overwritten(one, -7)
		if !slices.Equal(other, before.all) {
			t.Error(other)
		}
		pairs, others := x.Pairs(), x.Pairs()
		overwritten(pairs, api.Pair{A: -7, B: -7})
		if !slices.Equal(others, before.pairs) || len(others) == 0 {
			t.Error(others)
		}
		if !reflect.DeepEqual(tell(x), before) {
			t.Fatal("the tree has changed")
		}
	}
}

// TestApart: trees know nothing of one another.
func TestApart(t *testing.T) {
	d := dice(8)
	for range 50 {
		x := filled(t, &d)
		before := tell(x)
		other, b := made(t, 25), newBook(25)
		for range 100 {
			b.act(t, &d, other, 400)
		}
		b.agree(t, &d, other, 400)
		if !reflect.DeepEqual(tell(x), before) {
			t.Fatal("the tree has changed")
		}
	}
}
