package types

import "palisade/api"

// stretch is how many nodes are gone through by one recursion: great enough for all formed types, small enough for the stack.
const stretch = 1000

// walk goes through two types of like form at once. A type that isn't formed may be of any size and depth, and may stand in itself by way of its Parts' memory; so after each stretch what is left is put off till the recursion is over, and nothing is put off twice.
type walk struct {
	holds func(s, t api.Type) bool
	left  int
	later []rest
	seen  map[place]struct{}
}

// rest is Parts of both types that are still to be gone through, as many of the one as of the other.
type rest struct {
	s, t []api.Type
}

// place tells which rest it is: where both begin, and how many Parts they are.
type place struct {
	s, t *api.Type
	size int
}

// everywhere tells whether it holds of both types and of all Parts that stand in like places of them. What is asked sees to it that both have as many Parts, or both are one type.
func everywhere(s, t api.Type, holds func(s, t api.Type) bool) bool {
	w := walk{holds: holds, left: stretch}
	if !holds(s, t) || !w.parts(s.Parts, t.Parts) {
		return false
	}
	for len(w.later) > 0 {
		last := len(w.later) - 1
		next := w.later[last]
		w.later = w.later[:last]
		w.left = stretch
		if !w.parts(next.s, next.t) {
			return false
		}
	}
	return true
}

// parts tells whether it holds everywhere in these Parts, as far as they aren't put off.
func (w *walk) parts(s, t []api.Type) bool {
	for i := range s {
		if w.left == 0 {
			w.putOff(rest{s[i:], t[i:]})
			return true
		}
		w.left--
		if !w.holds(s[i], t[i]) || !w.parts(s[i].Parts, t[i].Parts) {
			return false
		}
	}
	return true
}

func (w *walk) putOff(r rest) {
	at := place{&r.s[0], &r.t[0], len(r.s)}
	if _, met := w.seen[at]; met {
		return
	}
	if w.seen == nil {
		w.seen = map[place]struct{}{}
	}
	w.seen[at] = struct{}{}
	w.later = append(w.later, r)
}
