package class

import (
	"palisade/api"
	"palisade/types"
	"palisade/walk"
)

// maxParts is how many Parts a formed type has at most.
const maxParts = 2

// node is a type by the places of its Parts (None: there is no such Part), so that it may be a key.
type node struct {
	kind, label, heap, exc int
	parts                  [maxParts]int
}

// pool is types of a formed lattice, all formed, each behind its Parts, and their places.
type pool struct {
	lattice api.Lattice
	types   []api.Type
	places  map[node]int
}

// takes tells whether t is formed; then it has a place.
func (p *pool) takes(t api.Type) bool {
	if p.place(t) != api.None {
		return true
	}
	if !types.Formed(p.lattice, t) {
		return false
	}
	p.put(t)
	return true
}

// takesAll tells whether all of these are formed.
func (p *pool) takesAll(list []api.Type) bool {
	return all(list, p.takes)
}

// place is where t, formed or not, stands, or None.
func (p *pool) place(t api.Type) int {
	return p.placeOf(t, 1)
}

// placeOf is asked of a type that stands so deep. It ends soon at types of any size, as what is wider or deeper than a formed type stands nowhere.
func (p *pool) placeOf(t api.Type, deep int) int {
	if deep > api.MaxDeep || len(t.Parts) > maxParts {
		return api.None
	}
	n := nodeOf(t)
	for i, part := range t.Parts {
		n.parts[i] = p.placeOf(part, deep+1)
		if n.parts[i] == api.None {
			return api.None
		}
	}
	if place, met := p.places[n]; met {
		return place
	}
	return api.None
}

// put sees to it that t, which is formed, has a place, and tells which.
func (p *pool) put(t api.Type) int {
	n := nodeOf(t)
	for i, part := range t.Parts {
		n.parts[i] = p.put(part)
	}
	place, met := p.places[n]
	if !met {
		place = len(p.types)
		p.places[n] = place
		p.types = append(p.types, t)
	}
	return place
}

// nodeOf is t's node but for its Parts.
func nodeOf(t api.Type) node {
	return node{kind: t.Kind, label: t.Label, heap: t.Heap, exc: t.Exc, parts: [maxParts]int{api.None, api.None}}
}

// copied is t in memory of its own.
func copied(t api.Type) api.Type {
	return walk.Copy(t, partsOf, withParts)
}

func partsOf(t api.Type) []api.Type {
	return t.Parts
}

func withParts(t api.Type, parts []api.Type) api.Type {
	t.Parts = parts
	return t
}
