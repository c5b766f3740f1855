package types

import (
	"palisade/api"
	"palisade/lattice"
)

// Join is the least type above both, and whether there is one.
func Join(l api.Lattice, s, t api.Type) (api.Type, bool) {
	if !allFormed(l, s, t) {
		return api.Type{}, false
	}
	return bound(l, s, t, true)
}

// Meet is the greatest type below both, and whether there is one.
func Meet(l api.Lattice, s, t api.Type) (api.Type, bool) {
	if !allFormed(l, s, t) {
		return api.Type{}, false
	}
	return bound(l, s, t, false)
}

// bound is the join of two formed types, if up, else their meet: what a Fun takes and its Heap go the other way, so both are one recursion. What a Ref holds is the same in both, and so is its bound: it is gone through for the sake of new memory.
func bound(l api.Lattice, s, t api.Type, up bool) (api.Type, bool) {
	if s.Kind != t.Kind || s.Kind == api.Ref && !Same(s.Parts[0], t.Parts[0]) {
		return api.Type{}, false
	}
	b := api.Type{Kind: s.Kind, Label: boundLabel(l, s.Label, t.Label, up)}
	if s.Kind == api.Fun {
		b.Heap = boundLabel(l, s.Heap, t.Heap, !up)
		b.Exc = boundExc(l, s.Exc, t.Exc, up)
	}
	for i := range s.Parts {
		taken := s.Kind == api.Fun && i == 0
		part, ok := bound(l, s.Parts[i], t.Parts[i], up != taken)
		if !ok {
			return api.Type{}, false
		}
		b.Parts = append(b.Parts, part)
	}
	return b, true
}

func boundLabel(l api.Lattice, a, b int, up bool) int {
	if up {
		return lattice.Join(l, a, b)
	}
	return lattice.Meet(l, a, b)
}

func boundExc(l api.Lattice, a, b int, up bool) int {
	if up {
		return lattice.Both(l, a, b)
	}
	// The Meet with None, which is no label, is None.
	return lattice.Meet(l, a, b)
}
