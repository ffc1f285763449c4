package pool_test

import (
	"maps"
	"math"
	"slices"
	"testing"

	"tumbler/api"
	"tumbler/pool"
)

// dice tells numbers below n, the same ones each time.
type dice uint64

func (d *dice) below(n int) int {
	*d = *d*6364136223846793005 + 1442695040888963407
	return int(uint64(*d)>>33) % n
}

// book is the rules over again: what is there by its handle, and the ages.
type book struct {
	room  int
	there map[api.Handle]int
	ages  map[int]int
	gone  map[api.Handle]bool
}

func newBook(room int) *book {
	return &book{room, map[api.Handle]int{}, map[int]int{}, map[api.Handle]bool{}}
}

func (b *book) clone() *book {
	return &book{b.room, maps.Clone(b.there), maps.Clone(b.ages), maps.Clone(b.gone)}
}

func (b *book) taken(place int) bool {
	_, is := b.there[handle(place, b.ages[place])]
	return is
}

func (b *book) put(x int) (api.Handle, api.Errno) {
	for i := range b.room {
		if !b.taken(i) && b.ages[i] <= oldest {
			b.there[handle(i, b.ages[i])] = x
			return handle(i, b.ages[i]), api.OK
		}
	}
	return 0, api.ErrPoolFull
}

func (b *book) set(h api.Handle, x int) bool {
	_, is := b.there[h]
	if is {
		b.there[h] = x
	}
	return is
}

func (b *book) drop(h api.Handle) bool {
	_, is := b.there[h]
	if is {
		delete(b.there, h)
		b.gone[h] = true
		b.ages[int(h-1)&0xffff]++
	}
	return is
}

func (b *book) lay(h api.Handle, x int) bool {
	for i := range b.room {
		age := (int(h) - 1 - i) >> 16
		if h > 0 && handle(i, age) == h && age <= oldest && !b.taken(i) && b.ages[i] <= age {
			b.ages[i], b.there[h] = age, x
			return true
		}
	}
	return false
}

// order are the handles that are there, by rising places.
func (b *book) order() []api.Handle {
	return slices.SortedFunc(maps.Keys(b.there), func(g, h api.Handle) int { return int(g-1)&0xffff - int(h-1)&0xffff })
}

// some is a handle: of a thing, a dropped one's, a near one, or a wild one.
func (b *book) some(d *dice) api.Handle {
	place := d.below(b.room + 1)
	switch d.below(8) {
	case 0:
		return handle(place, d.below(4))
	case 1:
		return handle(place, oldest-2+d.below(5))
	case 2:
		return handle(place, b.ages[place]+d.below(3)-1)
	case 3:
		return []api.Handle{0, -1, math.MinInt, math.MaxInt, -65535, 65536}[d.below(6)]
	default:
		return handle(place, b.ages[place])
	}
}

// act does one thing to both, and holds what they answer against one another.
func act(t *testing.T, d *dice, p *pool.Pool[int], b *book, x int) {
	t.Helper()
	h := b.some(d)
	switch d.below(5) {
	case 0, 1:
		h, e := p.Put(x)
		wantH, wantE := b.put(x)
		if h != wantH || e != wantE {
			t.Fatalf("Put: %d %d, not %d %d", h, e, wantH, wantE)
		}
		if b.gone[h] {
			t.Fatalf("Put told %d again", h)
		}
	case 2:
		if got, want := p.Drop(h), b.drop(h); got != want {
			t.Fatalf("Drop %d: %v, not %v", h, got, want)
		}
	case 3:
		if got, want := p.Lay(h, x), b.lay(h, x); got != want || got && b.gone[h] {
			t.Fatalf("Lay %d: %v, not %v", h, got, want)
		}
	case 4:
		if got, want := p.Set(h, x), b.set(h, x); got != want {
			t.Fatalf("Set %d: %v, not %v", h, got, want)
		}
	}
}

// agree holds all that a pool tells against the book.
func agree(t *testing.T, d *dice, p *pool.Pool[int], b *book) {
	t.Helper()
	var order []api.Handle
	for h, x := range p.All() {
		order = append(order, h)
		if x != b.there[h] {
			t.Fatalf("%d: %d, not %d", h, x, b.there[h])
		}
	}
	if !slices.Equal(order, b.order()) || p.Len() != len(order) {
		t.Fatalf("%v, %d in all; not %v", order, p.Len(), b.order())
	}
	ask := append(order, b.some(d), b.some(d))
	for _, h := range slices.AppendSeq(ask, maps.Keys(b.gone)) {
		want, wantIs := b.there[h]
		if x, is := p.Get(h); x != want || is != wantIs || is && b.gone[h] {
			t.Fatalf("Get %d: %d %v, not %d %v", h, x, is, want, wantIs)
		}
	}
}

// TestP1ToP4Exactly lets pools and their clones live, each with a book of its
// own.
func TestP1ToP4Exactly(t *testing.T) {
	d := dice(1)
	for _, room := range []int{1, 2, 3, 5, 24, 1024} {
		for range 30 {
			p, _ := pool.New[int](room)
			pools, books := []*pool.Pool[int]{p}, []*book{newBook(room)}
			for x := range 300 {
				i := d.below(len(pools))
				act(t, &d, pools[i], books[i], x+1)
				if len(pools) < 4 && d.below(60) == 0 {
					pools, books = append(pools, pools[i].Clone()), append(books, books[i].clone())
				}
				for i := range pools {
					agree(t, &d, pools[i], books[i])
				}
			}
		}
	}
}

// TestP4 uses one place up, from near its end on, and others many times: no
// handle is told twice, and none that was dropped is anything's again.
func TestP4(t *testing.T) {
	p, _ := pool.New[int](3)
	first := handle(1, oldest-50)
	if !p.Lay(first, -1) || !p.Drop(first) {
		t.Fatal("not laid, or not dropped")
	}
	gone := map[api.Handle]bool{first: true}
	last := 0
	for x := range 1000 {
		a, e := p.Put(x)
		b, f := p.Put(-x)
		if e != api.OK || f != api.OK || a == b || a <= 0 || b <= 0 || gone[a] || gone[b] {
			t.Fatalf("%d: %d %d, %d %d", x, a, e, b, f)
		}
		if n, is := p.Get(a); n != x || !is {
			t.Fatalf("%d: %d %v", a, n, is)
		}
		if n, is := p.Get(b); n != -x || !is {
			t.Fatalf("%d: %d %v", b, n, is)
		}
		if int(b-1)&0xffff == 1 {
			last = int(b-1) >> 16
		}
		if !p.Drop(a) || !p.Drop(b) {
			t.Fatalf("%d or %d was not dropped", a, b)
		}
		gone[a], gone[b] = true, true
	}
	if last != oldest || len(gone) != 2001 {
		t.Errorf("the place 1 ended at the age %d; %d handles", last, len(gone))
	}
	for h := range gone {
		if _, is := p.Get(h); is || p.Lay(h, 0) || p.Set(h, 0) || p.Drop(h) {
			t.Errorf("%d is a thing's again", h)
		}
	}
}
