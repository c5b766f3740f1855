package value_test

import (
	"math"
	"testing"

	"palisade/api"
	"palisade/lattice"
)

// numbers are what N is set to: those that the chapter names, what lies beside them, and the ends of int64.
var numbers = []int64{0, 1, 2, -1, -2, api.MaxFuncs - 1, api.MaxFuncs, api.MaxFuncs + 1, 1<<31 - 1, 1 << 31, 1<<31 + 1, 1 << 32, math.MaxInt64, math.MinInt64, -1 << 31}

func makeLattice(t *testing.T, names []string, pairs ...[2]int) api.Lattice {
	t.Helper()
	l, e := lattice.Make(names, pairs)
	if e != api.OK {
		t.Fatal("no lattice:", e)
	}
	return l
}

// chain is low (0) below high (1).
func chain(t *testing.T) api.Lattice {
	return makeLattice(t, []string{"low", "high"}, [2]int{0, 1})
}

// turned has the lesser number above: high (0), middle (1), low (2).
func turned(t *testing.T) api.Lattice {
	return makeLattice(t, []string{"high", "middle", "low"}, [2]int{2, 1}, [2]int{1, 0})
}

// diamond has 2 below 0 and 1, which are below 3, and not below one another.
func diamond(t *testing.T) api.Lattice {
	return makeLattice(t, []string{"left", "right", "low", "high"}, [2]int{2, 0}, [2]int{2, 1}, [2]int{0, 3}, [2]int{1, 3})
}

// unformed are lattices that are none, by what is wrong with them.
func unformed() map[string]api.Lattice {
	return map[string]api.Lattice{
		"zero":         {},
		"no order":     {Names: []string{"low", "high"}},
		"no names":     {Order: [][]bool{{true, true}, {false, true}}},
		"both ways":    {Names: []string{"low", "high"}, Order: [][]bool{{true, true}, {true, true}}},
		"no join":      {Names: []string{"low", "high"}, Order: [][]bool{{true, false}, {false, true}}},
		"no name":      {Names: []string{"low", "9"}, Order: [][]bool{{true, true}, {false, true}}},
		"ragged order": {Names: []string{"low", "high"}, Order: [][]bool{{true, true}, {}}},
	}
}

func integer(label int) api.Type {
	return api.Type{Kind: api.Int, Label: label}
}

func boolean(label int) api.Type {
	return api.Type{Kind: api.Bool, Label: label}
}

func pairType(label int, first, second api.Type) api.Type {
	return api.Type{Kind: api.Pair, Label: label, Parts: []api.Type{first, second}}
}

func refType(label int, holds api.Type) api.Type {
	return api.Type{Kind: api.Ref, Label: label, Parts: []api.Type{holds}}
}

func funType(label int, takes, gives api.Type, heap, exc int) api.Type {
	return api.Type{Kind: api.Fun, Label: label, Parts: []api.Type{takes, gives}, Heap: heap, Exc: exc}
}

// refTypes is a chain of Refs that is so deep.
func refTypes(deep int) api.Type {
	t := integer(0)
	for range deep - 1 {
		t = refType(0, t)
	}
	return t
}

// pairTypes is a full tree of Pairs that is so deep.
func pairTypes(deep int) api.Type {
	t := integer(0)
	for range deep - 1 {
		t = pairType(0, t, t)
	}
	return t
}

func num(n int64) api.Value {
	return api.Value{Kind: api.Int, N: n}
}

func truth(n int64) api.Value {
	return api.Value{Kind: api.Bool, N: n}
}

func pair(first, second api.Value) api.Value {
	return api.Value{Kind: api.Pair, Parts: []api.Value{first, second}}
}

func fun(n int64, captured ...api.Value) api.Value {
	return api.Value{Kind: api.Fun, N: n, Parts: captured}
}

func ref(n int64) api.Value {
	return api.Value{Kind: api.Ref, N: n}
}

// funs is a Fun that captured a Fun that captured ..., so deep, with last at its end; no recursion makes it.
func funs(deep int, last api.Value) api.Value {
	for range deep - 1 {
		last = fun(0, last)
	}
	return last
}

// wide is a Fun of so many nodes, that captured Ints and, as the last one, that.
func wide(nodes int, last api.Value) api.Value {
	parts := make([]api.Value, nodes-1)
	for i := range parts {
		parts[i] = num(int64(i))
	}
	parts[nodes-2] = last
	return fun(0, parts...)
}

// pairs is a chain of Pairs, to the left or to the right, so deep.
func pairs(deep int, right bool) api.Value {
	v := num(0)
	for range deep - 1 {
		if right {
			v = pair(truth(1), v)
		} else {
			v = pair(v, truth(0))
		}
	}
	return v
}

// copied is v in other memory, made without the package.
func copied(v api.Value) api.Value {
	parts := make([]api.Value, 0, len(v.Parts))
	for _, part := range v.Parts {
		parts = append(parts, copied(part))
	}
	v.Parts = parts
	return v
}
