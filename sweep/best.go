package sweep

const none = -1 // the place of nothing

// best is the place of the one that is ahead of all others, the first one of equals,
// by what is told of each, and that. Those of which nothing is told are passed over;
// false: there are no others.
func best[T, Told any](l []T, tell func(T) (Told, bool), ahead func(x, y Told) bool) (int, Told, bool) {
	place := none
	var of Told
	for i, t := range l {
		if x, is := tell(t); is && (place == none || ahead(x, of)) {
			place, of = i, x
		}
	}
	return place, of, place != none
}
