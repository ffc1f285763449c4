package pool

import (
	"iter"

	"tumbler/api"
)

// place may have a thing; its age tells how many handles it is done with, so
// that none of them is told again.
type place[T any] struct {
	age   int
	has   bool
	thing T
}

func (at *place[T]) fill(age int, x T) { *at = place[T]{age, true, x} }

// handle is that of the thing in the place i at that age.
func handle(i, age int) api.Handle { return api.Handle(age*api.MaxHandle + i + 1) }

// each goes through all places, those that have nothing too.
func (p *Pool[T]) each() iter.Seq2[int, *place[T]] {
	return func(tell func(int, *place[T]) bool) {
		for i := range p.places {
			if !tell(i, &p.places[i]) {
				return
			}
		}
	}
}

// split is the place and the age that h stands for, whatever the place has; nil,
// if the pool has no such place.
func (p *Pool[T]) split(h api.Handle) (*place[T], int) {
	if h <= 0 {
		return nil, 0
	}
	i, age := int(h-1)%api.MaxHandle, int(h-1)/api.MaxHandle
	if i >= len(p.places) {
		return nil, 0
	}
	return &p.places[i], age
}

// find is the place of the thing whose handle h is; nil, if h is nothing's.
func (p *Pool[T]) find(h api.Handle) *place[T] {
	at, age := p.split(h)
	if at == nil || !at.has || at.age != age {
		return nil
	}
	return at
}
