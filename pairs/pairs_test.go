package pairs_test

import (
	"math"
	"slices"
	"testing"

	"tumbler/api"
	"tumbler/pairs"
)

// list is the pairs of these handles, two by two.
func list(handles ...api.Handle) []api.Pair {
	var l []api.Pair
	for i := 0; i+1 < len(handles); i += 2 {
		l = append(l, api.Pair{A: handles[i], B: handles[i+1]})
	}
	return l
}

// made is a set with these pairs, put in this order.
func made(t *testing.T, room int, l ...api.Pair) *pairs.Set {
	t.Helper()
	s, e := pairs.New(room)
	if s == nil || e != api.OK {
		t.Fatal("New:", room, e)
	}
	for _, p := range l {
		put(t, s, p, true, api.OK)
	}
	return s
}

func put(t *testing.T, s *pairs.Set, p api.Pair, want bool, wantE api.Errno) {
	t.Helper()
	if is, e := s.Put(p); is != want || e != wantE {
		t.Errorf("Put %v: %v %d, not %v %d", p, is, e, want, wantE)
	}
}

func drop(t *testing.T, s *pairs.Set, p api.Pair, want bool) {
	t.Helper()
	if s.Drop(p) != want {
		t.Errorf("Drop %v: not %v", p, want)
	}
}

func without(t *testing.T, s *pairs.Set, h api.Handle, want int) {
	t.Helper()
	if n := s.Without(h); n != want {
		t.Errorf("Without %d: %d, not %d", h, n, want)
	}
}

func beyond(t *testing.T, s, u *pairs.Set, want ...api.Pair) {
	t.Helper()
	if l := s.Beyond(u); !slices.Equal(l, want) {
		t.Errorf("Beyond: %v, not %v", l, want)
	}
}

// has holds all that a set tells against the pairs that it must have, rising.
func has(t *testing.T, s *pairs.Set, want ...api.Pair) {
	t.Helper()
	if l := slices.Collect(s.All()); !slices.Equal(l, want) {
		t.Errorf("All: %v, not %v", l, want)
	}
	if s.Len() != len(want) {
		t.Errorf("Len: %d, not %d", s.Len(), len(want))
	}
	for _, p := range want {
		if !s.Has(p) {
			t.Errorf("Has %v: false", p)
		}
	}
	beyond(t, s, nil, want...)
}

// nowhere asks with pairs that are not there, and looks that none does a thing.
func nowhere(t *testing.T, s *pairs.Set, l ...api.Pair) {
	t.Helper()
	before := slices.Collect(s.All())
	for _, p := range l {
		if s.Has(p) {
			t.Errorf("Has %v: true", p)
		}
		drop(t, s, p, false)
	}
	has(t, s, before...)
}

// wrong are pairs that may not be.
func wrong() []api.Pair {
	return list(0, 0, 2, 2, 5, 2, 2, 1, 0, -1, -1, -1, -1, -2, 1, math.MinInt,
		math.MaxInt, math.MinInt, math.MaxInt, 0, 0, math.MinInt, math.MinInt, math.MinInt,
		math.MaxInt, math.MaxInt, math.MaxInt, math.MaxInt-1, math.MinInt+1, math.MinInt)
}

// far are pairs that may be, of handles that no pool tells too, rising.
func far() []api.Pair {
	return list(math.MinInt, math.MinInt+1, math.MinInt, -1, math.MinInt, 0, math.MinInt, math.MaxInt,
		-2, -1, -1, 0, -1, math.MaxInt, 0, 1, 0, math.MaxInt, 1, 2, math.MaxInt-1, math.MaxInt)
}

func TestS1Of(t *testing.T) {
	for _, c := range []struct{ a, b, low, high api.Handle }{
		{5, 2, 2, 5}, {2, 5, 2, 5}, {1, 2, 1, 2}, {3, 3, 3, 3}, {0, 0, 0, 0}, {0, 1, 0, 1}, {1, 0, 0, 1},
		{-1, 1, -1, 1}, {1, -1, -1, 1}, {-2, -1, -2, -1}, {-1, -2, -2, -1}, {-7, -7, -7, -7},
		{65537, 2, 2, 65537},
		{math.MaxInt, math.MinInt, math.MinInt, math.MaxInt}, {math.MinInt, math.MaxInt, math.MinInt, math.MaxInt},
		{math.MinInt, 1, math.MinInt, 1}, {-2, math.MaxInt, -2, math.MaxInt},
		{math.MaxInt, math.MaxInt, math.MaxInt, math.MaxInt}, {math.MinInt, math.MinInt, math.MinInt, math.MinInt},
	} {
		if p := pairs.Of(c.a, c.b); p != (api.Pair{A: c.low, B: c.high}) {
			t.Errorf("Of(%d, %d): %v", c.a, c.b, p)
		}
	}
}

func TestS1New(t *testing.T) {
	for _, room := range []int{0, -1, -4096, 4097, 4098, 65536, 1 << 32, 1<<32 + 1, math.MaxInt, math.MinInt, math.MinInt + 1} {
		if s, e := pairs.New(room); s != nil || e != api.ErrArg {
			t.Errorf("room %d: %v %d", room, s, e)
		}
	}
	for _, room := range []int{1, 2, 64, 300, 4095, 4096} {
		s := made(t, room)
		has(t, s)
		nowhere(t, s, list(1, 2, 0, 0, 0, 1)...)
		for i := range room {
			put(t, s, api.Pair{A: api.Handle(i), B: api.Handle(room)}, true, api.OK)
		}
		put(t, s, api.Pair{A: -1, B: 0}, false, api.ErrPairsFull)
		put(t, s, api.Pair{A: 0, B: api.Handle(room)}, false, api.OK)
		if s.Len() != room {
			t.Errorf("room %d: %d pairs", room, s.Len())
		}
	}
}

func TestS2PutAndHas(t *testing.T) {
	s := made(t, 8)
	for i := range 2 { // all of them twice: new ones, then old ones
		for _, p := range list(2, 5, 1, 9, 2, 4, 2, 6, 1, 8, 3, 4, 1, 2) {
			put(t, s, p, i == 0, api.OK)
		}
	}
	has(t, s, list(1, 2, 1, 8, 1, 9, 2, 4, 2, 5, 2, 6, 3, 4)...)
	nowhere(t, s, list(1, 3, 1, 7, 1, 10, 2, 3, 2, 7, 3, 5, 0, 1, 4, 5, 5, 2, 9, 1, 4, 3)...)
}

func TestS2PutWrong(t *testing.T) {
	sets := []*pairs.Set{made(t, 3), made(t, 3, list(1, 2)...), made(t, 2, list(0, 1, 1, 2)...)}
	for _, s := range sets {
		before := slices.Collect(s.All())
		for _, p := range wrong() {
			put(t, s, p, false, api.ErrArg) // in a full set too
			if s.Has(p) {
				t.Errorf("Has %v: true", p)
			}
		}
		has(t, s, before...)
		nowhere(t, s, wrong()...)
	}
}

func TestS2PutFar(t *testing.T) {
	l := far()
	back := slices.Clone(l)
	slices.Reverse(back)
	has(t, made(t, len(l), l...), l...)
	s := made(t, len(l), back...)
	has(t, s, l...)
	nowhere(t, s, list(math.MinInt, math.MinInt, math.MinInt, 1, -3, -1, 0, 2, math.MaxInt, math.MaxInt)...)
	without(t, s, math.MinInt, 4)
	without(t, s, math.MaxInt, 3)
	without(t, s, 0, 2)
	has(t, s, list(-2, -1, 1, 2)...)
}

func TestS2PutFull(t *testing.T) {
	s := made(t, 3, list(4, 7, 1, 9, 4, 6)...)
	for _, p := range list(1, 2, 4, 5, 4, 8, 5, 6, 7, 8, 0, 1, 1, 8, 1, 10) {
		put(t, s, p, false, api.ErrPairsFull)
		nowhere(t, s, p)
	}
	for _, p := range list(4, 7, 1, 9, 4, 6) {
		put(t, s, p, false, api.OK)
	}
	has(t, s, list(1, 9, 4, 6, 4, 7)...)

	drop(t, s, list(4, 6)[0], true)
	put(t, s, list(5, 6)[0], true, api.OK)
	put(t, s, list(4, 6)[0], false, api.ErrPairsFull)
	has(t, s, list(1, 9, 4, 7, 5, 6)...)

	without(t, s, 9, 1)
	put(t, s, list(0, 1)[0], true, api.OK)
	put(t, s, list(0, 2)[0], false, api.ErrPairsFull)
	has(t, s, list(0, 1, 4, 7, 5, 6)...)
}

func TestS2Drop(t *testing.T) {
	l := list(1, 3, 1, 4, 2, 3, 2, 4, 3, 4)
	for i, p := range l {
		s := made(t, 5, l...)
		drop(t, s, p, true)
		drop(t, s, p, false)
		has(t, s, slices.Delete(slices.Clone(l), i, i+1)...)
		nowhere(t, s, p, pairs.Of(1, 2), api.Pair{A: 4, B: 3})
		put(t, s, p, true, api.OK)
		has(t, s, l...)
	}
	s := made(t, 5, l...)
	for _, i := range []int{2, 0, 4, 1, 3} {
		drop(t, s, l[i], true)
		nowhere(t, s, l[i])
	}
	has(t, s)
}

func TestS2Without(t *testing.T) {
	all := list(1, 2, 1, 3, 1, 5, 2, 3, 3, 4, 3, 5, 4, 5)
	for _, c := range []struct {
		h    api.Handle
		n    int
		rest []api.Pair
	}{
		{1, 3, list(2, 3, 3, 4, 3, 5, 4, 5)},       // as A alone
		{5, 3, list(1, 2, 1, 3, 2, 3, 3, 4)},       // as B alone
		{3, 4, list(1, 2, 1, 5, 4, 5)},             // as both
		{2, 2, list(1, 3, 1, 5, 3, 4, 3, 5, 4, 5)}, // the first one with it
		{4, 2, list(1, 2, 1, 3, 1, 5, 2, 3, 3, 5)}, // the last one with it
		{6, 0, all}, {0, 0, all}, {-1, 0, all}, {-3, 0, all}, // of nobody
		{math.MinInt, 0, all}, {math.MaxInt, 0, all},
	} {
		s := made(t, 9, all...)
		without(t, s, c.h, c.n)
		has(t, s, c.rest...)
		without(t, s, c.h, 0)
		has(t, s, c.rest...)
	}
	without(t, made(t, 1), 0, 0)
	s := made(t, 3, list(1, 7, 2, 7, 7, 8)...)
	without(t, s, 7, 3)
	has(t, s)
}

func TestS3AllEnds(t *testing.T) {
	l := list(1, 2, 1, 3, 2, 3, 4, 5)
	s := made(t, 4, l...)
	for n := 1; n <= len(l); n++ {
		var seen []api.Pair
		for p := range s.All() {
			seen = append(seen, p)
			if len(seen) == n {
				break
			}
		}
		if !slices.Equal(seen, l[:n]) {
			t.Errorf("%v, not %v", seen, l[:n])
		}
	}
	told := 0
	s.All()(func(api.Pair) bool {
		told++
		return false
	})
	if told != 1 {
		t.Errorf("told %d times after it was to end", told)
	}
	has(t, s, l...)
	for range made(t, 1).All() {
		t.Error("a pair of an empty set")
	}
}

// TestS3AllAgain: one and the same way through is gone many times, also within
// itself and behind changes.
func TestS3AllAgain(t *testing.T) {
	s := made(t, 4, list(1, 2, 3, 4)...)
	all := s.All()
	n := 0
	for p := range all {
		for q := range all {
			if s.Has(p) && s.Has(q) {
				n++
			}
		}
	}
	if n != 4 {
		t.Error(n)
	}
	put(t, s, list(2, 3)[0], true, api.OK)
	if l := slices.Collect(all); !slices.Equal(l, list(1, 2, 2, 3, 3, 4)) {
		t.Error(l)
	}
	without(t, s, 3, 2)
	if l := slices.Collect(all); !slices.Equal(l, list(1, 2)) {
		t.Error(l)
	}
}

// TestS3AllPanic: what a loop panics with gets out of it, and the set stays
// whole.
func TestS3AllPanic(t *testing.T) {
	s := made(t, 2, list(1, 2, 3, 4)...)
	func() {
		defer func() {
			if recover() != "enough" {
				t.Error("another panic, or none")
			}
		}()
		for range s.All() {
			panic("enough")
		}
	}()
	has(t, s, list(1, 2, 3, 4)...)
	put(t, s, list(1, 2)[0], false, api.OK)
}

func TestS3Beyond(t *testing.T) {
	s := made(t, 9, list(2, 9, 1, 3, 4, 5, 1, 2, 2, 4)...)
	u := made(t, 4, list(4, 5, 1, 3, 3, 9)...)
	none := made(t, 1)
	beyond(t, s, u, list(1, 2, 2, 4, 2, 9)...)
	beyond(t, u, s, list(3, 9)...)
	beyond(t, s, none, list(1, 2, 1, 3, 2, 4, 2, 9, 4, 5)...)
	beyond(t, s, nil, list(1, 2, 1, 3, 2, 4, 2, 9, 4, 5)...)
	beyond(t, none, s)
	beyond(t, none, nil)
	beyond(t, none, none)
	beyond(t, s, s)
	has(t, s, list(1, 2, 1, 3, 2, 4, 2, 9, 4, 5)...)
	has(t, u, list(1, 3, 3, 9, 4, 5)...)
	has(t, none)
}

// TestNewMemory: whoever writes into an answer, or grows it, changes no set and
// no other answer.
func TestNewMemory(t *testing.T) {
	l := list(1, 2, 1, 3, 2, 3)
	s, none := made(t, 40, l...), made(t, 8)
	for h := range api.Handle(30) { // so that the set has had room for more
		put(t, s, api.Pair{A: -1, B: h}, true, api.OK)
	}
	without(t, s, -1, 30)
	for _, u := range []*pairs.Set{nil, none} {
		one, other := s.Beyond(u), s.Beyond(u)
		for i := range one {
			one[i] = api.Pair{A: 9, B: 9}
		}
		for range 8 {
			one = append(one, api.Pair{A: 8, B: 8})
		}
		if !slices.Equal(other, l) {
			t.Error(other)
		}
		has(t, s, l...)
		put(t, s, list(0, 1)[0], true, api.OK)
		drop(t, s, list(0, 1)[0], true)
		if !slices.Equal(other, l) {
			t.Error(other)
		}
	}
	has(t, none)
}

// TestSetsApart: sets know nothing of one another.
func TestSetsApart(t *testing.T) {
	s, u := made(t, 2, list(1, 2)...), made(t, 2, list(1, 2)...)
	drop(t, s, list(1, 2)[0], true)
	put(t, s, list(3, 4)[0], true, api.OK)
	has(t, u, list(1, 2)...)
	without(t, u, 2, 1)
	has(t, s, list(3, 4)...)
	has(t, u)
}

func TestExample1(t *testing.T) {
	if p := pairs.Of(5, 2); p != (api.Pair{A: 2, B: 5}) {
		t.Error(p)
	}
	s := made(t, 3)
	put(t, s, api.Pair{A: 2, B: 5}, true, api.OK)
	put(t, s, api.Pair{A: 2, B: 5}, false, api.OK)
	put(t, s, api.Pair{A: 5, B: 2}, false, api.ErrArg)
	put(t, s, api.Pair{A: 2, B: 2}, false, api.ErrArg)
	put(t, s, api.Pair{A: 1, B: 9}, true, api.OK)
	has(t, s, list(1, 9, 2, 5)...)
	without(t, s, 9, 1)
	beyond(t, s, nil, list(2, 5)...)
}
