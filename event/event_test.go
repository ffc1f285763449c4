package event_test

import (
	"math"
	"slices"
	"testing"

	"tumbler/api"
	"tumbler/event"
	"tumbler/pairs"
)

// ev is an event that no other number makes.
func ev(i int) api.Event {
	return api.Event{Kind: i%5 + 1, A: api.Handle(i), B: api.Handle(7 - i)}
}

// evs are the events of the numbers from low up to, but without, high.
func evs(low, high int) []api.Event {
	var l []api.Event
	for i := low; i < high; i++ {
		l = append(l, ev(i))
	}
	return l
}

// made is a queue with these events, pushed one by one.
func made(t *testing.T, room int, l ...api.Event) *event.Queue {
	t.Helper()
	q, e := event.New(room)
	if q == nil || e != api.OK {
		t.Fatal("New:", room, e)
	}
	for _, x := range l {
		push(t, q, api.OK, x)
	}
	return q
}

// turned is such a queue whose first event was not its first one: by so many others
// that came and went ahead.
func turned(t *testing.T, room, by int, l ...api.Event) *event.Queue {
	t.Helper()
	q := made(t, room)
	for i := range by {
		push(t, q, api.OK, ev(-i))
		take(t, q, ev(-i))
	}
	push(t, q, api.OK, l...)
	return q
}

func push(t *testing.T, q *event.Queue, want api.Errno, l ...api.Event) {
	t.Helper()
	if e := q.Push(l...); e != want {
		t.Errorf("Push %v: %d, not %d", l, e, want)
	}
}

// take takes these ones, one after the other.
func take(t *testing.T, q *event.Queue, l ...api.Event) {
	t.Helper()
	for _, want := range l {
		if x, is := q.Take(); x != want || !is {
			t.Errorf("Take: %v %v, not %v", x, is, want)
		}
	}
}

func takeNone(t *testing.T, q *event.Queue) {
	t.Helper()
	if x, is := q.Take(); x != (api.Event{}) || is {
		t.Errorf("Take: %v %v of an empty queue", x, is)
	}
}

// has holds all that a queue tells, and leaves it as it is, against what it must have.
func has(t *testing.T, q *event.Queue, room int, want ...api.Event) {
	t.Helper()
	if l := q.All(); !slices.Equal(l, want) {
		t.Errorf("All: %v, not %v", l, want)
	}
	if n := q.Free(); n != room-len(want) {
		t.Errorf("Free: %d, not %d", n, room-len(want))
	}
}

// over holds a queue against what it must have, up to its last event and its last place.
func over(t *testing.T, q *event.Queue, room int, want ...api.Event) {
	t.Helper()
	has(t, q, room, want...)
	push(t, q, api.ErrEventFull, evs(300, 301+room-len(want))...)
	more := evs(200, 200+room-len(want))
	push(t, q, api.OK, more...)
	want = slices.Concat(want, more)
	has(t, q, room, want...)
	for i, x := range want {
		push(t, q, api.ErrEventFull, evs(300, 301+i)...)
		take(t, q, x)
		has(t, q, room, want[i+1:]...)
	}
	takeNone(t, q)
	takeNone(t, q)
	has(t, q, room)
}

func TestE1New(t *testing.T) {
	for _, room := range []int{0, -1, -2, -256, -1024, 1025, 1026, 2048, 1 << 16, 1 << 32, 1<<32 + 1, -1 << 32, math.MaxInt, math.MinInt, math.MinInt + 1} {
		if q, e := event.New(room); q != nil || e != api.ErrArg {
			t.Errorf("room %d: %v %d", room, q, e)
		}
	}
	for _, room := range []int{1, 2, 3, 64, 255, 256, 1000, 1023, 1024} {
		q := made(t, room)
		has(t, q, room)
		takeNone(t, q)
		push(t, q, api.OK)
		over(t, q, room)
	}
}

func TestE1Push(t *testing.T) {
	q := made(t, 5)
	push(t, q, api.OK, ev(1))
	has(t, q, 5, ev(1))
	push(t, q, api.OK, ev(2), ev(3))
	has(t, q, 5, evs(1, 4)...)
	push(t, q, api.OK, evs(4, 6)...)
	over(t, q, 5, evs(1, 6)...)
	push(t, q, api.OK, evs(0, 5)...) // all at once
	over(t, q, 5, evs(0, 5)...)
}

// TestE1PushNone: where there is nothing to be pushed there is room for it.
func TestE1PushNone(t *testing.T) {
	for n := range 4 {
		q := made(t, 3, evs(0, n)...)
		push(t, q, api.OK)
		push(t, q, api.OK, []api.Event{}...)
		push(t, q, api.OK, nil...)
		push(t, q, api.OK, evs(5, 9)[:0]...)
		has(t, q, 3, evs(0, n)...)
	}
}

// TestE1PushFull: of what there is no room for as a whole there is nothing behind.
func TestE1PushFull(t *testing.T) {
	for by := range 6 {
		for n := range 6 {
			q := turned(t, 5, by, evs(0, n)...)
			for more := 6 - n; more < 13; more++ {
				push(t, q, api.ErrEventFull, evs(20, 20+more)...)
				has(t, q, 5, evs(0, n)...)
			}
			push(t, q, api.ErrEventFull, evs(0, 2000)...)
			over(t, q, 5, evs(0, n)...)
		}
	}
}

// TestE1PushAny: an event is any event; those that are the same are each one of their own.
func TestE1PushAny(t *testing.T) {
	l := []api.Event{
		{}, {}, {Kind: api.EventBegin, A: 1, B: 2}, {Kind: api.EventBegin, A: 1, B: 2}, {Kind: api.EventOut, A: 3},
		{Kind: 99}, {Kind: -1}, {A: 1}, {B: 1}, {Kind: math.MinInt, A: math.MaxInt, B: math.MinInt},
		{Kind: math.MaxInt, A: math.MinInt, B: math.MaxInt}, {Kind: 1 << 32, A: 1 << 32, B: 1 << 32}, {},
	}
	q := made(t, 20)
	push(t, q, api.OK, l...)
	has(t, q, 20, l...)
	push(t, q, api.OK, l[:7]...)
	push(t, q, api.ErrEventFull, l[0])
	has(t, q, 20, slices.Concat(l, l[:7])...)
	take(t, q, slices.Concat(l, l[:7])...)
	takeNone(t, q)
	push(t, q, api.OK, api.Event{})
	if x, is := q.Take(); x != (api.Event{}) || !is { // it was there, though it is empty
		t.Error(x, is)
	}
	takeNone(t, q)
}

func TestE1Take(t *testing.T) {
	q := made(t, 3, evs(1, 4)...)
	take(t, q, ev(1))
	has(t, q, 3, evs(2, 4)...)
	push(t, q, api.OK, ev(4))
	push(t, q, api.ErrEventFull, ev(5))
	take(t, q, ev(2), ev(3))
	push(t, q, api.OK, evs(5, 7)...)
	has(t, q, 3, evs(4, 7)...)
	take(t, q, evs(4, 7)...)
	takeNone(t, q)
	takeNone(t, q)
	has(t, q, 3)
	push(t, q, api.OK, ev(7))
	take(t, q, ev(7))
	takeNone(t, q)
}

// TestE1Around lets queues of all little rooms be of all fillings, wherever in them
// the first event stands.
func TestE1Around(t *testing.T) {
	for room := 1; room < 9; room++ {
		for by := range 2*room + 2 {
			for n := range room + 1 {
				over(t, turned(t, room, by, evs(0, n)...), room, evs(0, n)...)
				over(t, turned(t, room, by, evs(0, n)...).Clone(), room, evs(0, n)...)
			}
		}
	}
	for _, room := range []int{256, 1023, 1024} {
		for _, by := range []int{1, room / 2, room - 1, room, room + 1} {
			over(t, turned(t, room, by, evs(0, room)...), room, evs(0, room)...)
		}
	}
}

// TestE1Clone: a clone is as the queue was, and what befalls one of both befalls
// not the other one.
func TestE1Clone(t *testing.T) {
	for by := range 7 {
		for n := range 6 {
			q := turned(t, 5, by, evs(0, n)...)
			c := q.Clone()
			again := c.Clone()
			over(t, q, 5, evs(0, n)...)
			has(t, c, 5, evs(0, n)...)
			push(t, q, api.OK, evs(30, 35)...)
			over(t, c, 5, evs(0, n)...)
			has(t, q, 5, evs(30, 35)...)
			over(t, again, 5, evs(0, n)...)
		}
	}
	q := made(t, 4, evs(0, 2)...)
	c := q.Clone()
	push(t, q, api.OK, ev(2))
	push(t, c, api.OK, evs(3, 5)...)
	take(t, c, ev(0))
	has(t, q, 4, evs(0, 3)...)
	has(t, c, 4, ev(1), ev(3), ev(4))
}

// TestQueuesApart: queues know nothing of one another.
func TestQueuesApart(t *testing.T) {
	q, r := made(t, 3, evs(0, 2)...), made(t, 3, evs(0, 2)...)
	take(t, q, ev(0))
	push(t, q, api.OK, evs(5, 7)...)
	push(t, q, api.ErrEventFull, ev(9))
	over(t, r, 3, evs(0, 2)...)
	push(t, r, api.OK, ev(8))
	over(t, q, 3, ev(1), ev(5), ev(6))
	has(t, r, 3, ev(8))
}

// TestPushUnchanged: what is pushed is not written into, nor what stands behind it,
// and the list is not kept.
func TestPushUnchanged(t *testing.T) {
	for by := range 5 {
		l := evs(0, 9)
		q := turned(t, 4, by)
		push(t, q, api.OK, l[2:6]...)
		push(t, q, api.ErrEventFull, l[6:8]...)
		take(t, q, l[2:4]...)
		push(t, q, api.OK, l[:1]...)
		if !slices.Equal(l, evs(0, 9)) {
			t.Errorf("%v", l)
		}
		clear(l)
		over(t, q, 4, ev(4), ev(5), ev(0))
		if !slices.Equal(l, make([]api.Event, 9)) {
			t.Errorf("%v", l)
		}
	}
}

// spoiled writes into a list and into its spare room, and grows it.
func spoiled(l []api.Event) {
	l = l[:cap(l)]
	for i := range l {
		l[i] = api.Event{Kind: 77, A: 77, B: 77}
	}
	_ = append(l, l...)
}

// TestAllNewMemory: whoever writes into what All told changes no queue and no other answer.
func TestAllNewMemory(t *testing.T) {
	for by := range 6 {
		for n := range 6 {
			q := turned(t, 5, by, evs(0, n)...)
			one, other := q.All(), q.All()
			spoiled(one)
			if !slices.Equal(other, evs(0, n)) {
				t.Errorf("%v", other)
			}
			over(t, q.Clone(), 5, evs(0, n)...)
			over(t, q, 5, evs(0, n)...)
			if !slices.Equal(other, evs(0, n)) { // nor do the queue's changes change an answer
				t.Errorf("%v", other)
			}
		}
	}
}

// set is a set of these handles' pairs, two by two, put in this order.
func set(t *testing.T, handles ...api.Handle) *pairs.Set {
	t.Helper()
	s, e := pairs.New(max(1, len(handles)/2))
	if e != api.OK {
		t.Fatal("a set:", e)
	}
	for i := 0; i+1 < len(handles); i += 2 {
		if is, e := s.Put(api.Pair{A: handles[i], B: handles[i+1]}); !is || e != api.OK {
			t.Fatalf("Put %v: %v %d", handles[i:i+2], is, e)
		}
	}
	return s
}

// begin and end are the events of these handles' pairs, two by two.
func begin(handles ...api.Handle) []api.Event { return events(1, handles) }

func end(handles ...api.Handle) []api.Event { return events(2, handles) }

func events(kind int, handles []api.Handle) []api.Event {
	var l []api.Event
	for i := 0; i+1 < len(handles); i += 2 {
		l = append(l, api.Event{Kind: kind, A: handles[i], B: handles[i+1]})
	}
	return l
}

func diff(t *testing.T, old, now *pairs.Set, want ...api.Event) {
	t.Helper()
	if l := event.Diff(old, now); !slices.Equal(l, want) {
		t.Errorf("Diff: %v, not %v", l, want)
	}
}

func TestE2Diff(t *testing.T) {
	diff(t, set(t), set(t))
	diff(t, set(t), set(t, 1, 2), begin(1, 2)...)
	diff(t, set(t, 1, 2), set(t), end(1, 2)...)
	diff(t, set(t, 1, 2), set(t, 1, 2))
	diff(t, set(t, 1, 2), set(t, 1, 3), append(begin(1, 3), end(1, 2)...)...)
	diff(t, set(t, 1, 3), set(t, 1, 2), append(begin(1, 2), end(1, 3)...)...) // what begins is ahead, whichever is less
	diff(t, set(t, 1, 2), set(t, 2, 3), append(begin(2, 3), end(1, 2)...)...)
	diff(t, set(t, 2, 3), set(t, 1, 2), append(begin(1, 2), end(2, 3)...)...)
	diff(t, set(t, 1, 3), set(t, 2, 3), append(begin(2, 3), end(1, 3)...)...) // of one B
	diff(t, set(t, 1, 2, 2, 5, 3, 4), set(t, 1, 2, 2, 5, 3, 4))
	diff(t, set(t, 2, 5, 1, 2, 3, 4), set(t, 3, 4, 2, 5, 1, 2)) // put in another order
}

// TestE2Order: each kind rises by A, then by B, in whatever order the pairs were put.
func TestE2Order(t *testing.T) {
	old := set(t, 9, 11, 2, 9, 5, 6, 1, 9, 2, 10, 4, 7)
	now := set(t, 8, 9, 5, 6, 2, 11, 10, 12, 4, 7, 1, 10, 2, 3)
	diff(t, old, now, append(begin(1, 10, 2, 3, 2, 11, 8, 9, 10, 12), end(1, 9, 2, 9, 2, 10, 9, 11)...)...)
	diff(t, now, old, append(begin(1, 9, 2, 9, 2, 10, 9, 11), end(1, 10, 2, 3, 2, 11, 8, 9, 10, 12)...)...)
}

func TestE2Nobody(t *testing.T) {
	s := set(t, 2, 5, 1, 9, 1, 2)
	diff(t, nil, nil)
	diff(t, nil, set(t))
	diff(t, set(t), nil)
	diff(t, nil, s, begin(1, 2, 1, 9, 2, 5)...)
	diff(t, s, nil, end(1, 2, 1, 9, 2, 5)...)
	diff(t, set(t), s, begin(1, 2, 1, 9, 2, 5)...)
	diff(t, s, set(t), end(1, 2, 1, 9, 2, 5)...)
	diff(t, s, s)
}

// TestE2Far: pairs of handles that no pool tells are pairs, too.
func TestE2Far(t *testing.T) {
	old := set(t, math.MaxInt-1, math.MaxInt, -1, 0, math.MinInt, 0, 0, 1, 65536, 65537)
	now := set(t, 0, math.MaxInt, 0, 1, -1, 1, math.MinInt, math.MaxInt, math.MinInt, math.MinInt+1, 1<<32, 1<<32+1)
	diff(t, old, now, append(
		begin(math.MinInt, math.MinInt+1, math.MinInt, math.MaxInt, -1, 1, 0, math.MaxInt, 1<<32, 1<<32+1),
		end(math.MinInt, 0, -1, 0, 65536, 65537, math.MaxInt-1, math.MaxInt)...)...)
}

// TestE2Changed: sets are told as they are when they are asked.
func TestE2Changed(t *testing.T) {
	old, now := set(t, 1, 2, 3, 4), set(t, 1, 2, 5, 6, 7, 8)
	first := event.Diff(old, now)
	now.Drop(api.Pair{A: 7, B: 8})
	now.Put(api.Pair{A: 3, B: 4})
	old.Without(2)
	diff(t, old, now, begin(1, 2, 5, 6)...)
	if !slices.Equal(first, append(begin(5, 6, 7, 8), end(3, 4)...)) {
		t.Error(first)
	}
}

// TestE2Many: as many pairs as two sets may have, of which a quarter is in both.
func TestE2Many(t *testing.T) {
	const n = 4096
	var low, high, come, gone []api.Handle
	for i := api.Handle(0); i < n; i++ {
		low = append(low, i, 2*n)
		high = append(high, i+n/2, 2*n+i%2)
		if i < n/2 || i%2 == 1 {
			gone = append(gone, i, 2*n)
		}
		if i >= n/2 || i%2 == 1 {
			come = append(come, i+n/2, 2*n+i%2)
		}
	}
	old, now := set(t, low...), set(t, high...)
	diff(t, old, now, append(begin(come...), end(gone...)...)...)
	diff(t, now, old, append(begin(gone...), end(come...)...)...)
	diff(t, nil, old, begin(low...)...)
	diff(t, now, set(t), end(high...)...)
}
