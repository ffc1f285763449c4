package pool_test

import (
	"math"
	"slices"
	"testing"

	"tumbler/api"
	"tumbler/pool"
)

// oldest is the greatest age that a thing's handle may have.
const oldest = 1 << 30

func handle(place, age int) api.Handle { return api.Handle(age*65536 + place + 1) }

// item is one thing as All tells it.
type item struct {
	h api.Handle
	x string
}

func all(p *pool.Pool[string]) []item {
	var l []item
	for h, x := range p.All() {
		l = append(l, item{h, x})
	}
	return l
}

// made is a pool with these things, from its first place on.
func made(t *testing.T, room int, things ...string) *pool.Pool[string] {
	t.Helper()
	p, e := pool.New[string](room)
	if p == nil || e != api.OK {
		t.Fatal("New:", room, e)
	}
	for i, x := range things {
		put(t, p, x, handle(i, 0))
	}
	return p
}

func put(t *testing.T, p *pool.Pool[string], x string, want api.Handle) {
	t.Helper()
	if h, e := p.Put(x); h != want || e != api.OK {
		t.Errorf("Put %s: %d %d, not %d", x, h, e, want)
	}
}

func full(t *testing.T, p *pool.Pool[string]) {
	t.Helper()
	before := all(p)
	if h, e := p.Put("too much"); h != 0 || e != api.ErrPoolFull {
		t.Errorf("Put into a full pool: %d %d", h, e)
	}
	has(t, p, before...)
}

func drop(t *testing.T, p *pool.Pool[string], h api.Handle, want bool) {
	t.Helper()
	if p.Drop(h) != want {
		t.Errorf("Drop %d: not %v", h, want)
	}
}

func lay(t *testing.T, p *pool.Pool[string], h api.Handle, x string, want bool) {
	t.Helper()
	if p.Lay(h, x) != want {
		t.Errorf("Lay %d: not %v", h, want)
	}
}

// has holds all that a pool tells against what it must have.
func has(t *testing.T, p *pool.Pool[string], want ...item) {
	t.Helper()
	if got := all(p); !slices.Equal(got, want) {
		t.Errorf("All: %v, not %v", got, want)
	}
	if p.Len() != len(want) {
		t.Errorf("Len: %d, not %d", p.Len(), len(want))
	}
	for _, w := range want {
		if x, is := p.Get(w.h); x != w.x || !is {
			t.Errorf("Get %d: %q %v, not %q", w.h, x, is, w.x)
		}
	}
}

// nothings asks with handles that are nothing's, and looks that none does a thing.
func nothings(t *testing.T, p *pool.Pool[string], handles ...api.Handle) {
	t.Helper()
	before := all(p)
	for _, h := range handles {
		if x, is := p.Get(h); x != "" || is {
			t.Errorf("Get %d: %q %v", h, x, is)
		}
		if p.Set(h, "nobody's") {
			t.Errorf("Set %d: true", h)
		}
		drop(t, p, h, false)
	}
	has(t, p, before...)
}

// wild are handles that no place of a room of up to 1024 ever has.
func wild() []api.Handle {
	l := []api.Handle{0, -1, -2, -65535, -65536, -65537, math.MinInt, math.MinInt + 1, math.MaxInt, math.MaxInt - 1}
	for _, age := range []int{0, 1, oldest} {
		l = append(l, handle(1024, age), handle(4095, age), handle(65534, age), handle(65535, age), -handle(0, age))
	}
	for _, age := range []int{oldest + 1, 1 << 31, 1 << 32, 1<<47 - 1} {
		l = append(l, handle(0, age), handle(1, age), handle(1023, age))
	}
	return l
}

func TestP1New(t *testing.T) {
	for _, room := range []int{0, -1, -1024, 1025, 1026, 65536, math.MaxInt, math.MinInt} {
		if p, e := pool.New[string](room); p != nil || e != api.ErrArg {
			t.Errorf("room %d: %v %d", room, p, e)
		}
	}
	for _, room := range []int{1, 2, 1023, 1024} {
		p := made(t, room)
		has(t, p)
		nothings(t, p, handle(0, 0), handle(room-1, 0), handle(room, 0))
		for i := range room {
			put(t, p, "x", handle(i, 0))
		}
		full(t, p)
		if p.Len() != room {
			t.Errorf("room %d: %d things", room, p.Len())
		}
	}
}

func TestP1PutTakesTheLeastPlace(t *testing.T) {
	p := made(t, 4, "a", "b", "c", "d")
	full(t, p)
	drop(t, p, handle(2, 0), true)
	drop(t, p, handle(1, 0), true)
	put(t, p, "e", handle(1, 1))
	drop(t, p, handle(0, 0), true)
	put(t, p, "f", handle(0, 1))
	put(t, p, "g", handle(2, 1))
	full(t, p)
	has(t, p, item{handle(0, 1), "f"}, item{handle(1, 1), "e"}, item{handle(2, 1), "g"}, item{handle(3, 0), "d"})
}

// TestP1UsedUp: behind the age of 2^30 a place takes nothing any more.
func TestP1UsedUp(t *testing.T) {
	p := made(t, 2)
	lay(t, p, handle(0, oldest-1), "a", true)
	drop(t, p, handle(0, oldest-1), true)
	put(t, p, "b", handle(0, oldest))
	has(t, p, item{handle(0, oldest), "b"})
	drop(t, p, handle(0, oldest), true)
	put(t, p, "c", handle(1, 0))
	full(t, p)
	for _, age := range []int{0, 1, oldest - 1, oldest, oldest + 1, oldest + 2} {
		lay(t, p, handle(0, age), "d", false)
		nothings(t, p, handle(0, age))
	}
	has(t, p, item{handle(1, 0), "c"})
	drop(t, p, handle(1, 0), true)
	put(t, p, "e", handle(1, 1))
	full(t, p.Clone())

	one := made(t, 1)
	lay(t, one, handle(0, oldest), "a", true)
	full(t, one)
	drop(t, one, handle(0, oldest), true)
	full(t, one)
	has(t, one)
}

func TestP2GetSetDrop(t *testing.T) {
	p := made(t, 3, "a", "b")
	if !p.Set(handle(1, 0), "c") || !p.Set(handle(0, 0), "") {
		t.Error("Set: false")
	}
	has(t, p, item{handle(0, 0), ""}, item{handle(1, 0), "c"})
	nothings(t, p, handle(2, 0), handle(3, 0), handle(0, 1), handle(1, 1), handle(0, oldest))
	drop(t, p, handle(0, 0), true)
	has(t, p, item{handle(1, 0), "c"})
	nothings(t, p, handle(0, 0), handle(0, 1))
	put(t, p, "d", handle(0, 1))
	nothings(t, p, handle(0, 0), handle(0, 2))
	has(t, p, item{handle(0, 1), "d"}, item{handle(1, 0), "c"})
}

// TestP2WildHandles: no handle from elsewhere is a thing's, nor can one be laid.
func TestP2WildHandles(t *testing.T) {
	for _, room := range []int{1, 2, 1024} {
		p := made(t, room)
		for range 2 { // without things, and full of them
			nothings(t, p, wild()...)
			before := all(p)
			for _, h := range wild() {
				lay(t, p, h, "wild", false)
			}
			has(t, p, before...)
			for i := p.Len(); i < room; i++ {
				put(t, p, "x", handle(i, 0))
			}
		}
	}
	small := made(t, 2)
	nothings(t, small, handle(2, 0), handle(2, oldest))
	lay(t, small, handle(2, 0), "beyond", false)
	lay(t, small, handle(2, oldest), "beyond", false)
	has(t, small)
}

func TestP2Lay(t *testing.T) {
	p := made(t, 3)
	lay(t, p, handle(2, 0), "a", true)
	lay(t, p, handle(2, 0), "again", false)
	lay(t, p, handle(2, 1), "on it", false)
	has(t, p, item{handle(2, 0), "a"})

	lay(t, p, handle(1, 5), "b", true)
	for _, age := range []int{0, 4, 5, 6, oldest} {
		lay(t, p, handle(1, age), "on it", false)
	}
	nothings(t, p, handle(1, 0), handle(1, 4), handle(1, 6))
	drop(t, p, handle(1, 5), true) // its age is 6
	for _, age := range []int{0, 4, 5} {
		lay(t, p, handle(1, age), "younger", false)
	}
	lay(t, p, handle(1, 6), "the same", true)
	drop(t, p, handle(1, 6), true)
	lay(t, p, handle(1, 9), "older", true)
	has(t, p, item{handle(1, 9), "older"}, item{handle(2, 0), "a"})
	drop(t, p, handle(1, 9), true)
	put(t, p, "c", handle(0, 0))
	put(t, p, "d", handle(1, 10))
	has(t, p, item{handle(0, 0), "c"}, item{handle(1, 10), "d"}, item{handle(2, 0), "a"})
}

// TestP2LayRefused: what is refused leaves the place's age as it was.
func TestP2LayRefused(t *testing.T) {
	p := made(t, 1)
	lay(t, p, handle(0, oldest+1), "too old", false)
	put(t, p, "a", handle(0, 0))
	lay(t, p, handle(0, 7), "on it", false)
	drop(t, p, handle(0, 0), true)
	lay(t, p, handle(0, 0), "too young", false)
	put(t, p, "b", handle(0, 1))
	has(t, p, item{handle(0, 1), "b"})
}

func TestP3AllEnds(t *testing.T) {
	p := made(t, 5, "a", "b", "c", "d")
	drop(t, p, handle(1, 0), true)
	for many := range 4 {
		seen := ""
		p.All()(func(_ api.Handle, x string) bool {
			seen += x
			return len(seen) <= many
		})
		if want := "acd"[:min(many+1, 3)]; seen != want {
			t.Errorf("ended behind %d: %q, not %q", many+1, seen, want)
		}
	}
	for range made(t, 3).All() {
		t.Error("a thing of none")
	}
}

// TestP3AllAnew: what All answers starts anew each time, also within itself.
func TestP3AllAnew(t *testing.T) {
	p := made(t, 3, "a")
	things := p.All()
	put(t, p, "b", handle(1, 0))
	seen := ""
outer:
	for range 3 {
		for h, x := range things {
			for _, y := range things {
				if seen += x + y; len(seen) > 10 {
					break outer
				}
			}
			if h == handle(1, 0) {
				continue outer
			}
		}
	}
	if seen != "aaabbabbaaab" {
		t.Error(seen)
	}
}

// TestP3AllWhileChanging: each place is told as it is when All comes to it.
func TestP3AllWhileChanging(t *testing.T) {
	p := made(t, 7, "a", "b", "c", "d", "e")
	var seen []item
	for h, x := range p.All() {
		seen = append(seen, item{h, x})
		switch x {
		case "b":
			drop(t, p, handle(0, 0), true) // behind it
			put(t, p, "f", handle(0, 1))
			p.Set(handle(1, 0), "g") // where it is
			p.Set(handle(2, 0), "h") // ahead of it
			drop(t, p, handle(3, 0), true)
			drop(t, p, handle(4, 0), true)
			lay(t, p, handle(4, 3), "i", true)
		case "i":
			put(t, p, "j", handle(3, 1))
			drop(t, p, h, true) // where it is
			put(t, p, "k", handle(4, 4))
			lay(t, p, handle(6, 9), "l", true)
		}
	}
	want := []item{{handle(0, 0), "a"}, {handle(1, 0), "b"}, {handle(2, 0), "h"}, {handle(4, 3), "i"}, {handle(6, 9), "l"}}
	if !slices.Equal(seen, want) {
		t.Errorf("%v, not %v", seen, want)
	}
	has(t, p, item{handle(0, 1), "f"}, item{handle(1, 0), "g"}, item{handle(2, 0), "h"}, item{handle(3, 1), "j"}, item{handle(4, 4), "k"}, item{handle(6, 9), "l"})

	for h := range p.All() {
		drop(t, p, h, true)
	}
	has(t, p)
}

// TestP3AllPanic: what a loop panics with gets out of it, and the pool stays
// whole.
func TestP3AllPanic(t *testing.T) {
	p := made(t, 2, "a", "b")
	func() {
		defer func() {
			if recover() != "enough" {
				t.Error("another panic, or none")
			}
		}()
		for range p.All() {
			panic("enough")
		}
	}()
	has(t, p, item{handle(0, 0), "a"}, item{handle(1, 0), "b"})
}

func TestP3Clone(t *testing.T) {
	p := made(t, 4, "a", "b", "c")
	drop(t, p, handle(1, 0), true)
	lay(t, p, handle(3, oldest), "d", true)
	drop(t, p, handle(3, oldest), true)
	q := p.Clone()
	same := []item{{handle(0, 0), "a"}, {handle(2, 0), "c"}}
	has(t, q, same...)
	nothings(t, q, handle(1, 0), handle(1, 1), handle(3, oldest))

	p.Set(handle(0, 0), "e")
	drop(t, p, handle(2, 0), true)
	put(t, p, "f", handle(1, 1))
	has(t, q, same...)
	changed := []item{{handle(0, 0), "e"}, {handle(1, 1), "f"}}
	has(t, p, changed...)

	// Its ages are the same, those of places that had nothing too.
	put(t, q, "g", handle(1, 1))
	full(t, q)
	q.Set(handle(0, 0), "h")
	drop(t, q, handle(1, 1), true)
	lay(t, q, handle(1, 8), "i", true)
	has(t, p, changed...)
	has(t, q, item{handle(0, 0), "h"}, item{handle(1, 8), "i"}, item{handle(2, 0), "c"})

	put(t, p, "j", handle(2, 1))
	full(t, p)
}

// TestPoolsApart: pools know nothing of one another.
func TestPoolsApart(t *testing.T) {
	p, q := made(t, 2, "a"), made(t, 2)
	drop(t, p, handle(0, 0), true)
	put(t, q, "b", handle(0, 0))
	put(t, p, "c", handle(0, 1))
	has(t, p, item{handle(0, 1), "c"})
	has(t, q, item{handle(0, 0), "b"})
}

// TestZeroThing: a thing that is its type's zero value is a thing still.
func TestZeroThing(t *testing.T) {
	p, _ := pool.New[*int](1)
	h, e := p.Put(nil)
	if x, is := p.Get(h); h != 1 || e != api.OK || x != nil || !is || p.Len() != 1 {
		t.Error(h, e, x, is)
	}
	if _, e := p.Put(new(int)); e != api.ErrPoolFull {
		t.Error(e)
	}
	if !p.Drop(h) || p.Len() != 0 {
		t.Error("not dropped")
	}
	empty, _ := pool.New[struct{}](2)
	a, _ := empty.Put(struct{}{})
	b, _ := empty.Put(struct{}{})
	if a != 1 || b != 2 || empty.Len() != 2 {
		t.Error(a, b)
	}
}

func TestExample1(t *testing.T) {
	p := made(t, 2)
	put(t, p, "a", 1)
	put(t, p, "b", 2)
	full(t, p)
	drop(t, p, 1, true)
	drop(t, p, 1, false)
	put(t, p, "c", 65537)
	nothings(t, p, 1)
	has(t, p, item{65537, "c"}, item{2, "b"})
}
