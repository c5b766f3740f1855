package value

import (
	"palisade/api"
	"palisade/lattice"
	"palisade/types"
)

// TypeOf is f's type; the zero type, if that isn't formed.
func TypeOf(l api.Lattice, f api.Func) api.Type {
	bottom := lattice.Bottom(l)
	t := api.Type{Kind: api.Fun, Label: bottom, Parts: []api.Type{f.Param, f.Result}, Heap: f.Heap, Exc: f.Exc}
	// Raised by the bottom it stays what it is, but is new memory, and the zero type if it isn't formed.
	return types.Raise(l, t, bottom)
}

// Fits tells whether v fits t.
func Fits(l api.Lattice, funcs []api.Func, cells []api.Cell, t api.Type, v api.Value) bool {
	s := surroundings{l, funcs, cells}
	return types.Formed(l, t) && Formed(v) && s.fits(t, v)
}

// Heap tells whether each cell's value fits its Type.
func Heap(l api.Lattice, funcs []api.Func, cells []api.Cell) bool {
	for _, cell := range cells {
		if !Fits(l, funcs, cells, cell.Type, cell.Value) {
			return false
		}
	}
	return true
}

// surroundings are what it hangs on, beside a type, whether a value fits.
type surroundings struct {
	lattice api.Lattice
	funcs   []api.Func
	cells   []api.Cell
}

// fits is asked of a formed type and a formed value, whose Parts are formed too.
func (s *surroundings) fits(t api.Type, v api.Value) bool {
	if t.Kind != v.Kind {
		return false
	}
	switch t.Kind {
	case api.Pair:
		return s.fits(t.Parts[0], v.Parts[0]) && s.fits(t.Parts[1], v.Parts[1])
	case api.Fun:
		return s.funFits(t, v)
	case api.Ref:
		return v.N < int64(len(s.cells)) && types.Same(s.cells[v.N].Type, t.Parts[0])
	}
	return true
}

func (s *surroundings) funFits(t api.Type, v api.Value) bool {
	if v.N >= int64(len(s.funcs)) {
		return false
	}
	f := s.funcs[v.N]
	if len(v.Parts) != len(f.Caps) || !types.Below(s.lattice, TypeOf(s.lattice, f), t) {
		return false
	}
	for i, part := range v.Parts {
		// The function's type says nothing of its Caps, so they may not be formed though it is.
		if !types.Formed(s.lattice, f.Caps[i]) || !s.fits(f.Caps[i], part) {
			return false
		}
	}
	return true
}
