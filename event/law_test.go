package event_test

import (
	"cmp"
	"math"
	"slices"
	"testing"

	"tumbler/api"
	"tumbler/event"
	"tumbler/pairs"
)

// dice tells numbers below n, the same ones each time.
type dice uint64

func (d *dice) below(n int) int {
	*d = *d*6364136223846793005 + 1442695040888963407
	return int(uint64(*d)>>33) % n
}

// handle is one of few, so that pairs are met again; at times a wild one.
func (d *dice) handle() api.Handle {
	if d.below(15) == 0 {
		return []api.Handle{math.MinInt, -1, 0, 65537, 1 << 32, math.MaxInt}[d.below(6)]
	}
	return api.Handle(d.below(9) + 1)
}

// event is one of few, so that like ones meet; at times a wild one.
func (d *dice) event() api.Event { return api.Event{Kind: d.below(7), A: d.handle(), B: d.handle()} }

// events are some, at most as many as told.
func (d *dice) events(most int) []api.Event {
	var l []api.Event
	for range d.below(most + 1) {
		l = append(l, d.event())
	}
	return l
}

// book is the rules over again: a list that is cut in front and grown behind.
type book struct {
	room  int
	there []api.Event
}

func (b *book) push(l []api.Event) api.Errno {
	if len(b.there)+len(l) > b.room {
		return api.ErrEventFull
	}
	b.there = slices.Concat(b.there, l)
	return api.OK
}

func (b *book) take() (api.Event, bool) {
	if len(b.there) == 0 {
		return api.Event{}, false
	}
	x := b.there[0]
	b.there = b.there[1:]
	return x, true
}

// act does one thing to both, and holds what they answer against one another.
func act(t *testing.T, d *dice, q *event.Queue, b *book) {
	t.Helper()
	switch d.below(5) {
	case 0:
		l := d.events(b.room + 2)
		push(t, q, b.push(l), l...)
	case 1:
		l := d.events(min(b.room-len(b.there), 3))
		push(t, q, b.push(l), l...)
	default:
		want, wantIs := b.take()
		if x, is := q.Take(); x != want || is != wantIs {
			t.Errorf("Take: %v %v, not %v %v", x, is, want, wantIs)
		}
	}
}

// TestE1ByBook lets two queues live side by side, each with a book of its own; at
// times one is cloned in place of the other.
func TestE1ByBook(t *testing.T) {
	d := dice(1)
	for _, room := range []int{1, 2, 3, 4, 5, 7, 8, 16, 33, 256, 1024} {
		for range 40 {
			queues := []*event.Queue{made(t, room), made(t, room)}
			books := []*book{{room: room}, {room: room}}
			for range 150 {
				i := d.below(2)
				if d.below(20) == 0 {
					queues[i] = queues[1-i].Clone()
					*books[i] = *books[1-i]
				}
				act(t, &d, queues[i], books[i])
				has(t, queues[0], room, books[0].there...)
				has(t, queues[1], room, books[1].there...)
				if t.Failed() {
					t.FailNow()
				}
			}
		}
	}
}

// TestE3Order: what is taken is what was pushed, in its order, each once; what found
// no room is not among it.
func TestE3Order(t *testing.T) {
	d := dice(2)
	refused := 0
	for range 400 {
		q := made(t, 1+d.below(40))
		var pushed, taken []api.Event
		next := 0
		for range 300 {
			n := d.below(12)
			if l := evs(next, next+n); q.Push(l...) == api.OK {
				pushed = append(pushed, l...)
				next += n
			} else {
				refused++
			}
			for range d.below(12) {
				if x, is := q.Take(); is {
					taken = append(taken, x)
				}
			}
		}
		if l := slices.Concat(taken, q.All()); !slices.Equal(l, pushed) {
			t.Fatalf("%v, not %v", l, pushed)
		}
	}
	if refused < 1000 {
		t.Error("too few were refused:", refused)
	}
}

// TestE3Long: a queue goes around as often as one likes, needs no memory for that,
// and does not move its other events.
func TestE3Long(t *testing.T) {
	q := made(t, 3, ev(0), ev(1))
	l := []api.Event{{}}
	next := 2
	n := testing.AllocsPerRun(1, func() {
		for range 1 << 20 {
			l[0] = ev(next)
			push(t, q, api.OK, l...)
			take(t, q, ev(next-2))
			next++
		}
	})
	if n > 64 {
		t.Error("pieces of memory:", n)
	}
	over(t, q, 3, ev(next-2), ev(next-1))
}

// sets are two that have some pairs in common.
func (d *dice) sets(most int) (old, now *pairs.Set) {
	old, _ = pairs.New(4096)
	now, _ = pairs.New(4096)
	for range d.below(most + 1) {
		p := pairs.Of(d.handle(), d.handle())
		which := d.below(3)
		if which != 0 {
			old.Put(p)
		}
		if which != 1 {
			now.Put(p)
		}
	}
	return old, now
}

// list is all pairs of a set; of none, if it is nil.
func list(s *pairs.Set) []api.Pair {
	if s == nil {
		return nil
	}
	return slices.Collect(s.All())
}

// diffBook asks each pair of the one whether it is among those of the other one, and
// sorts the events.
func diffBook(old, now *pairs.Set) []api.Event {
	var out []api.Event
	missing := func(kind int, from, in *pairs.Set) {
		others := list(in)
		for _, p := range list(from) {
			if !slices.Contains(others, p) {
				out = append(out, api.Event{Kind: kind, A: p.A, B: p.B})
			}
		}
	}
	missing(2, old, now)
	missing(1, now, old)
	slices.SortFunc(out, func(x, y api.Event) int {
		return cmp.Or(cmp.Compare(x.Kind, y.Kind), cmp.Compare(x.A, y.A), cmp.Compare(x.B, y.B))
	})
	return out
}

// done is the set s behind what some events tell; each of them must have been news.
func done(t *testing.T, s *pairs.Set, l []api.Event) []api.Pair {
	t.Helper()
	out, _ := pairs.New(4096)
	for _, p := range list(s) {
		out.Put(p)
	}
	for _, x := range l {
		p := api.Pair{A: x.A, B: x.B}
		switch x.Kind {
		case api.EventBegin:
			if is, e := out.Put(p); !is || e != api.OK {
				t.Errorf("%v begins: %v %d", p, is, e)
			}
		case api.EventEnd:
			if !out.Drop(p) {
				t.Errorf("%v ends, but was not there", p)
			}
		default:
			t.Errorf("an event of another kind: %v", x)
		}
	}
	return list(out)
}

// TestE2ByBook holds Diff against the book; and whoever does what it tells with the
// old set has the new one (E3). Neither set is changed by it.
func TestE2ByBook(t *testing.T) {
	d := dice(3)
	for range 3000 {
		old, now := d.sets(50)
		switch d.below(12) {
		case 0:
			old = nil
		case 1:
			now = nil
		}
		wasOld, wasNow := list(old), list(now)
		l := event.Diff(old, now)
		if want := diffBook(old, now); !slices.Equal(l, want) {
			t.Fatalf("%v, not %v", l, want)
		}
		if !slices.Equal(list(old), wasOld) || !slices.Equal(list(now), wasNow) {
			t.Fatalf("%v %v, then %v %v", wasOld, wasNow, list(old), list(now))
		}
		if got := done(t, old, l); !slices.Equal(got, wasNow) {
			t.Fatalf("%v, not %v", got, wasNow)
		}
		if got := done(t, now, event.Diff(now, old)); !slices.Equal(got, wasOld) {
			t.Fatalf("%v, not %v", got, wasOld)
		}
		if t.Failed() {
			t.FailNow()
		}
	}
}

// TestE3Told lets pairs come and go, tells it by a queue, and whoever takes has in the
// end, by that alone, what there is.
func TestE3Told(t *testing.T) {
	d := dice(4)
	for range 100 {
		q := made(t, 1024)
		var seen []api.Event
		var before *pairs.Set
		for range 40 {
			_, now := d.sets(12)
			push(t, q, api.OK, event.Diff(before, now)...)
			for range d.below(40) {
				if x, is := q.Take(); is {
					seen = append(seen, x)
				}
			}
			before = now
		}
		if got := done(t, nil, slices.Concat(seen, q.All())); !slices.Equal(got, list(before)) {
			t.Fatalf("%v, not %v", got, list(before))
		}
		if t.Failed() {
			t.FailNow()
		}
	}
}

// TestDiffNewMemory: whoever writes into what Diff told changes no set and no other answer.
func TestDiffNewMemory(t *testing.T) {
	d := dice(5)
	for range 300 {
		old, now := d.sets(20)
		for _, l := range [][2]*pairs.Set{{old, now}, {nil, now}, {old, nil}, {now, old}} {
			wasOld, wasNow := list(old), list(now)
			one, other := event.Diff(l[0], l[1]), event.Diff(l[0], l[1])
			was := slices.Clone(other)
			q := made(t, 64)
			push(t, q, api.OK, one...)
			spoiled(one)
			has(t, q, 64, was...)
			if !slices.Equal(other, was) || !slices.Equal(list(old), wasOld) || !slices.Equal(list(now), wasNow) {
				t.Fatalf("%v %v %v", other, list(old), list(now))
			}
		}
		if t.Failed() {
			t.FailNow()
		}
	}
}

func TestExample1(t *testing.T) {
	a, b, c := ev(1), ev(2), ev(3)
	q := made(t, 2)
	push(t, q, api.OK, a, b)
	push(t, q, api.ErrEventFull, c)
	take(t, q, a)
	push(t, q, api.OK, c)
	has(t, q, 2, b, c)
	diff(t, set(t, 1, 2), set(t, 1, 3), api.Event{Kind: api.EventBegin, A: 1, B: 3}, api.Event{Kind: api.EventEnd, A: 1, B: 2})
}
