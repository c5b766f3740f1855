// Package walk goes through trees of any size and depth, and ends also at such as stand in themselves. Types, values and expressions that aren't formed may be so.
package walk

// How many nodes are gone through by one recursion. The first one is great enough for all formed types, values and expressions, and small enough for the stack. The others are short: where a list stands in many places, each of them goes through some of it again.
const (
	firstStretch = 4000
	stretch      = 64
)

// walk goes through two trees of like form. A tree may stand in itself by way of its Parts' memory; so after each stretch what is left is put off till the recursion is over, and nothing is put off twice.
type walk[T any] struct {
	parts func(T) []T
	holds func(s, t T) bool
	left  int
	later []rest[T]
	seen  map[place[T]]struct{}
}

// rest is Parts of both trees that are still to be gone through, as many of the one as of the other.
type rest[T any] struct {
	s, t []T
}

// place tells which rest it is: where both begin, and how many Parts they are.
type place[T any] struct {
	s, t *T
	size int
}

// Everywhere tells whether it holds of both trees and of all Parts that stand in like places of them. What is asked sees to it that both have as many Parts, or both are one tree.
func Everywhere[T any](s, t T, parts func(T) []T, holds func(s, t T) bool) bool {
	w := walk[T]{parts: parts, holds: holds, left: firstStretch}
	if !holds(s, t) || !w.through(parts(s), parts(t)) {
		return false
	}
	for len(w.later) > 0 {
		last := len(w.later) - 1
		next := w.later[last]
		w.later = w.later[:last]
		w.left = stretch
		if !w.through(next.s, next.t) {
			return false
		}
	}
	return true
}

// through tells whether it holds everywhere in these Parts, as far as they aren't put off.
func (w *walk[T]) through(s, t []T) bool {
	for i := range s {
		if w.left == 0 {
			w.putOff(rest[T]{s[i:], t[i:]})
			return true
		}
		w.left--
		if !w.holds(s[i], t[i]) || !w.through(w.parts(s[i]), w.parts(t[i])) {
			return false
		}
	}
	return true
}

func (w *walk[T]) putOff(r rest[T]) {
	at := place[T]{&r.s[0], &r.t[0], len(r.s)}
	if _, met := w.seen[at]; met {
		return
	}
	if w.seen == nil {
		w.seen = map[place[T]]struct{}{}
	}
	w.seen[at] = struct{}{}
	w.later = append(w.later, r)
}
