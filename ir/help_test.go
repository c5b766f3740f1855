package ir_test

import (
	"testing"

	"palisade/api"
	"palisade/ir"
	"palisade/lattice"
)

// The labels of sets: the sets of a, b and c, of which lO has none. The bottom isn't the first, nor the top the last, and numbers say nothing of the order.
const (
	lAC = iota
	lB
	lABC
	lO
	lA
	lBC
	lAB
	lC
)

const none = api.None

func sets() api.Lattice {
	return made([]string{"ac", "b", "abc", "o", "a", "bc", "ab", "c"},
		[2]int{lO, lA}, [2]int{lO, lB}, [2]int{lO, lC}, [2]int{lA, lAB}, [2]int{lA, lAC}, [2]int{lB, lAB}, [2]int{lB, lBC}, [2]int{lC, lAC}, [2]int{lC, lBC},
		[2]int{lAB, lABC}, [2]int{lAC, lABC}, [2]int{lBC, lABC})
}

// chain is low (0) below high (1).
func chain() api.Lattice {
	return made([]string{"low", "high"}, [2]int{0, 1})
}

// fork has a, b and c between d and e; five has b below c, a beside them: of neither a join of three hangs together as of sets.
func fork() api.Lattice {
	return made([]string{"a", "b", "c", "d", "e"}, [2]int{3, 0}, [2]int{3, 1}, [2]int{3, 2}, [2]int{0, 4}, [2]int{1, 4}, [2]int{2, 4})
}

func five() api.Lattice {
	return made([]string{"e", "a", "b", "c", "d"}, [2]int{4, 1}, [2]int{4, 2}, [2]int{2, 3}, [2]int{1, 0}, [2]int{3, 0})
}

func single() api.Lattice {
	return made([]string{"α"})
}

func made(names []string, pairs ...[2]int) api.Lattice {
	l, e := lattice.Make(names, pairs)
	if e != api.OK {
		panic(e)
	}
	return l
}

func lattices() []api.Lattice {
	return []api.Lattice{sets(), chain(), fork(), five(), single()}
}

// unformedLattices are none, each by something else.
func unformedLattices() []api.Lattice {
	two := []string{"low", "high"}
	return []api.Lattice{
		{}, {Names: two}, {Order: [][]bool{{true, true}, {false, true}}}, {Names: two, Order: [][]bool{{true, true}, {true, true}}}, {Names: two, Order: [][]bool{{true, false}, {false, true}}},
		{Names: two, Order: [][]bool{{true, true}, nil}}, {Names: two, Order: [][]bool{{true, true}}}, {Names: two, Order: [][]bool{{false, true}, {false, true}}}, {Names: []string{"low", "9"}, Order: [][]bool{{true, true}, {false, true}}},
		{Names: make([]string, 100), Order: make([][]bool, 100)},
	}
}

func integer(label int) api.Type {
	return api.Type{Kind: api.Int, Label: label}
}

func boolean(label int) api.Type {
	return api.Type{Kind: api.Bool, Label: label}
}

func pair(label int, first, second api.Type) api.Type {
	return api.Type{Kind: api.Pair, Label: label, Parts: []api.Type{first, second}}
}

func ref(label int, holds api.Type) api.Type {
	return api.Type{Kind: api.Ref, Label: label, Parts: []api.Type{holds}}
}

func fun(label int, takes, gives api.Type, heap, exc int) api.Type {
	return api.Type{Kind: api.Fun, Label: label, Parts: []api.Type{takes, gives}, Heap: heap, Exc: exc}
}

// refs is Refs within one another, so deep, an Int at the end.
func refs(deep int) api.Type {
	t := integer(0)
	for range deep - 1 {
		t = ref(0, t)
	}
	return t
}

// tree is Pairs of Pairs, full, so deep.
func tree(deep int) api.Type {
	if deep == 1 {
		return integer(0)
	}
	return pair(0, tree(deep-1), tree(deep-1))
}

// listOf is a list of nodes.
func listOf(nodes ...ir.Node) []ir.Node {
	return nodes
}

// raising is an Op 18, of that slot and Env.
func raising(slot, env int) ir.Node {
	return ir.Node{Op: 18, A: slot, Env: env}
}

// answers holds what Check answers of these functions, and Shaped with it.
func answers(t *testing.T, name string, l api.Lattice, fns []ir.Fn, want int, err api.Errno) {
	t.Helper()
	k, e := ir.Check(l, fns)
	if k != want || e != err {
		t.Errorf("%s: %d, error %d; want %d, error %d", name, k, e, want, err)
	}
	if got := ir.Shaped(l, fns); got != (err != api.ErrForm) {
		t.Errorf("%s: shaped: %v", name, got)
	}
}

// isRight tells whether a function alone is right; it must be shaped.
func isRight(t *testing.T, name string, l api.Lattice, f ir.Fn) bool {
	t.Helper()
	k, e := ir.Check(l, []ir.Fn{f})
	if k != 0 || e != api.OK && e != api.ErrVerify {
		t.Fatalf("%s: %d, error %d", name, k, e)
	}
	return e == api.OK
}
