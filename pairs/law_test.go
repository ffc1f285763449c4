package pairs_test

import (
	"cmp"
	"maps"
	"math"
	"slices"
	"testing"

	"tumbler/api"
	"tumbler/pairs"
)

// dice tells numbers below n, the same ones each time.
type dice uint64

func (d *dice) below(n int) int {
	*d = *d*6364136223846793005 + 1442695040888963407
	return int(uint64(*d)>>33) % n
}

// handle is mostly one of few, so that pairs are met again; at times a wild one.
func (d *dice) handle() api.Handle {
	if d.below(12) == 0 {
		return []api.Handle{math.MinInt, math.MinInt + 1, -1, 0, math.MaxInt - 1, math.MaxInt}[d.below(6)]
	}
	return api.Handle(d.below(7) + 1)
}

func (d *dice) pair() api.Pair { return api.Pair{A: d.handle(), B: d.handle()} }

// shuffled is l in some order.
func (d *dice) shuffled(l []api.Pair) []api.Pair {
	l = slices.Clone(l)
	for i := range l {
		j := i + d.below(len(l)-i)
		l[i], l[j] = l[j], l[i]
	}
	return l
}

// book is the rules over again: what is there, in no order.
type book struct {
	room  int
	there map[api.Pair]bool
}

func (b *book) put(p api.Pair) (bool, api.Errno) {
	switch {
	case p.A >= p.B:
		return false, api.ErrArg
	case b.there[p]:
		return false, api.OK
	case len(b.there) == b.room:
		return false, api.ErrPairsFull
	}
	b.there[p] = true
	return true, api.OK
}

func (b *book) drop(p api.Pair) bool {
	is := b.there[p]
	delete(b.there, p)
	return is
}

func (b *book) without(h api.Handle) int {
	before := len(b.there)
	maps.DeleteFunc(b.there, func(p api.Pair, _ bool) bool { return p.A == h || p.B == h })
	return before - len(b.there)
}

func rising(p, q api.Pair) int { return cmp.Or(cmp.Compare(p.A, q.A), cmp.Compare(p.B, q.B)) }

// beyond are those that c hasn't, rising.
func (b *book) beyond(c *book) []api.Pair {
	var l []api.Pair
	for p := range b.there {
		if !c.there[p] {
			l = append(l, p)
		}
	}
	slices.SortFunc(l, rising)
	return l
}

// act does one thing to both, and holds what they answer against one another.
func act(t *testing.T, d *dice, s *pairs.Set, b *book) {
	t.Helper()
	p, h := d.pair(), d.handle()
	switch d.below(8) {
	case 0, 1:
		p = pairs.Of(p.A, p.B)
		fallthrough
	case 2, 3:
		wantIs, wantE := b.put(p)
		put(t, s, p, wantIs, wantE)
	case 4, 5:
		drop(t, s, p, b.drop(p))
	case 6:
		if got := s.Has(p); got != b.there[p] {
			t.Errorf("Has %v: %v", p, got)
		}
	case 7:
		if d.below(4) == 0 {
			without(t, s, h, b.without(h))
		}
	}
}

// TestS1ToS4Exactly lets two sets live side by side, each with a book of its own.
func TestS1ToS4Exactly(t *testing.T) {
	d := dice(1)
	empty := &book{}
	for _, room := range []int{1, 2, 3, 5, 8, 13, 64, 4096} {
		for range 40 {
			sets := []*pairs.Set{made(t, room), made(t, room)}
			books := []*book{{room, map[api.Pair]bool{}}, {room, map[api.Pair]bool{}}}
			for range 120 {
				i := d.below(2)
				act(t, &d, sets[i], books[i])
				has(t, sets[0], books[0].beyond(empty)...)
				has(t, sets[1], books[1].beyond(empty)...)
				beyond(t, sets[0], sets[1], books[0].beyond(books[1])...)
				beyond(t, sets[1], sets[0], books[1].beyond(books[0])...)
				if t.Failed() {
					t.FailNow()
				}
			}
		}
	}
}

// TestS4Order puts all orders of five pairs, and some orders of many.
func TestS4Order(t *testing.T) {
	l := list(1, 2, 1, 7, 2, 3, 2, 7, 7, 8)
	n := 0
	orders(l, 0, func(order []api.Pair) {
		n++
		same(t, made(t, 5, order...), l)
	})
	if n != 120 {
		t.Errorf("%d orders", n)
	}
	var many []api.Pair
	for a := range 40 {
		for b := a + 1; b < 40; b++ {
			many = append(many, api.Pair{A: api.Handle(a - 20), B: api.Handle(b - 20)})
		}
	}
	d := dice(2)
	for range 20 {
		same(t, made(t, len(many), d.shuffled(many)...), many)
	}
}

// orders tells l in all orders of what stands from its place k on.
func orders(l []api.Pair, k int, tell func([]api.Pair)) {
	if k == len(l) {
		tell(slices.Clone(l))
		return
	}
	for i := k; i < len(l); i++ {
		o := slices.Clone(l)
		o[k], o[i] = o[i], o[k]
		orders(o, k+1, tell)
	}
}

// same holds s against one whose pairs were put rising: no call tells them apart.
func same(t *testing.T, s *pairs.Set, l []api.Pair) {
	t.Helper()
	u := made(t, len(l), l...)
	has(t, s, l...)
	beyond(t, s, u)
	beyond(t, u, s)
	put(t, s, api.Pair{A: 100, B: 101}, false, api.ErrPairsFull)
	if s.Without(7) != u.Without(7) {
		t.Error("Without tells them apart")
	}
	beyond(t, s, u)
	beyond(t, u, s)
}

// TestS4Beyond: what two sets have not in common is what Beyond tells both ways;
// whoever does that to the one has the other one.
func TestS4Beyond(t *testing.T) {
	d := dice(3)
	for range 300 {
		s, u := made(t, 64), made(t, 64)
		for range 40 {
			s.Put(pairs.Of(d.handle(), d.handle()))
			u.Put(pairs.Of(d.handle(), d.handle()))
		}
		gone, come := s.Beyond(u), u.Beyond(s)
		for _, p := range gone {
			if !s.Has(p) || u.Has(p) || slices.Contains(come, p) {
				t.Fatalf("%v is in both or in none", p)
			}
			drop(t, s, p, true)
		}
		beyond(t, s, u) // what is left is in both
		for _, p := range come {
			put(t, s, p, true, api.OK)
		}
		has(t, s, slices.Collect(u.All())...)
		if t.Failed() {
			t.FailNow()
		}
	}
}

// TestS4Nothing: what was put and dropped leaves nothing, its room too, however
// often and in whatever order.
func TestS4Nothing(t *testing.T) {
	d := dice(4)
	rest := list(-1, 1, 2, 5, 3, 6, 5, 9)
	passing := list(-2, -1, -1, 0, -1, 2, 1, 2, 2, 4, 2, 6, 3, 5, 3, 7, 5, 8, 6, 9, 9, 10)
	s := made(t, len(rest)+len(passing), rest...)
	for range 200 {
		for _, p := range d.shuffled(passing) {
			put(t, s, p, true, api.OK)
		}
		put(t, s, api.Pair{A: 20, B: 21}, false, api.ErrPairsFull)
		for _, p := range d.shuffled(passing) {
			drop(t, s, p, true)
		}
		has(t, s, rest...)
		nowhere(t, s, passing...)
		if t.Failed() {
			t.FailNow()
		}
	}
}
