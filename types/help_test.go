package types_test

import (
	"math"
	"testing"

	"palisade/api"
	"palisade/lattice"
)

// numbers are labels and such as are none, the ends of int among them.
var numbers = []int{0, 1, 2, 3, 4, 7, 8, 1 << 40, math.MaxInt, api.None, -2, -3, math.MinInt}

func makeLattice(t *testing.T, names []string, pairs ...[2]int) api.Lattice {
	t.Helper()
	l, e := lattice.Make(names, pairs)
	if e != api.OK {
		t.Fatal("no lattice:", e)
	}
	return l
}

// chain is low (0) below high (1).
func chain(t *testing.T) api.Lattice {
	return makeLattice(t, []string{"low", "high"}, [2]int{0, 1})
}

// turned has the lesser number above: high (0), middle (1), low (2).
func turned(t *testing.T) api.Lattice {
	return makeLattice(t, []string{"high", "middle", "low"}, [2]int{2, 1}, [2]int{1, 0})
}

// diamond has 0 below 1 and 2, which are below 3, and not below one another.
func diamond(t *testing.T) api.Lattice {
	return makeLattice(t, []string{"low", "left", "right", "high"}, [2]int{0, 1}, [2]int{0, 2}, [2]int{1, 3}, [2]int{2, 3})
}

// unformed are lattices that are none, by what is wrong with them.
func unformed() map[string]api.Lattice {
	return map[string]api.Lattice{
		"zero":          {},
		"no order":      {Names: []string{"low", "high"}},
		"no names":      {Order: [][]bool{{true, true}, {false, true}}},
		"not below":     {Names: []string{"low", "high"}, Order: [][]bool{{false, true}, {false, true}}},
		"both ways":     {Names: []string{"low", "high"}, Order: [][]bool{{true, true}, {true, true}}},
		"no join":       {Names: []string{"low", "high"}, Order: [][]bool{{true, false}, {false, true}}},
		"no name":       {Names: []string{"low", "9"}, Order: [][]bool{{true, true}, {false, true}}},
		"names alike":   {Names: []string{"low", "low"}, Order: [][]bool{{true, true}, {false, true}}},
		"ragged order":  {Names: []string{"low", "high"}, Order: [][]bool{{true, true}, {}}},
		"missing order": {Names: []string{"low", "high"}, Order: [][]bool{{true, true}}},
	}
}

func integer(label int) api.Type {
	return api.Type{Kind: api.Int, Label: label}
}

func boolean(label int) api.Type {
	return api.Type{Kind: api.Bool, Label: label}
}

func pair(label int, first, second api.Type) api.Type {
	return api.Type{Kind: api.Pair, Label: label, Parts: []api.Type{first, second}}
}

func ref(label int, holds api.Type) api.Type {
	return api.Type{Kind: api.Ref, Label: label, Parts: []api.Type{holds}}
}

func fun(label int, takes, gives api.Type, heap, exc int) api.Type {
	return api.Type{Kind: api.Fun, Label: label, Parts: []api.Type{takes, gives}, Heap: heap, Exc: exc}
}

// copied is t in other memory, made without the package.
func copied(t api.Type) api.Type {
	parts := make([]api.Type, 0, len(t.Parts))
	for _, part := range t.Parts {
		parts = append(parts, copied(part))
	}
	t.Parts = parts
	return t
}

// refs is a chain of Refs that is so deep, with last at its end; no recursion makes it.
func refs(deep int, last api.Type) api.Type {
	for range deep - 1 {
		last = ref(0, last)
	}
	return last
}

// tree is Pairs of Pairs, full, so deep.
func tree(deep int) api.Type {
	if deep == 1 {
		return integer(0)
	}
	return pair(0, tree(deep-1), tree(deep-1))
}
