package verify_test

import (
	"slices"
	"testing"

	"palisade/api"
	"palisade/lattice"
	"palisade/verify"
)

const none = api.None

// The labels of the lattice sets. Its bottom isn't 0, and two of them are neither above nor below one another.
const (
	lAB = iota
	lA
	lB
	lO
)

func makeLattice(names []string, pairs ...[2]int) api.Lattice {
	l, e := lattice.Make(names, pairs)
	if e != api.OK {
		panic("no lattice")
	}
	return l
}

func single() api.Lattice {
	return makeLattice([]string{"low"})
}

// chain is low (0) below high (1).
func chain() api.Lattice {
	return makeLattice([]string{"low", "high"}, [2]int{0, 1})
}

func sets() api.Lattice {
	return makeLattice([]string{"ab", "a", "b", "o"}, [2]int{lO, lA}, [2]int{lO, lB}, [2]int{lA, lAB}, [2]int{lB, lAB})
}

// labels are those of sets.
var labels = []int{lAB, lA, lB, lO}

func integer(label int) api.Type {
	return api.Type{Kind: api.Int, Label: label}
}

func boolean(label int) api.Type {
	return api.Type{Kind: api.Bool, Label: label}
}

func pair(label int, first, second api.Type) api.Type {
	return api.Type{Kind: api.Pair, Label: label, Parts: []api.Type{first, second}}
}

func ref(label int, holds api.Type) api.Type {
	return api.Type{Kind: api.Ref, Label: label, Parts: []api.Type{holds}}
}

func fun(label int, takes, gives api.Type, heap, exc int) api.Type {
	return api.Type{Kind: api.Fun, Label: label, Parts: []api.Type{takes, gives}, Heap: heap, Exc: exc}
}

// deep is a Ref of Refs that nests so deep.
func deep(levels int) api.Type {
	t := integer(lO)
	for range levels - 1 {
		t = ref(lO, t)
	}
	return t
}

// wide is a type of so many nodes, an odd number up to 39.
func wide(nodes int) api.Type {
	if nodes == 1 {
		return integer(lO)
	}
	half := (nodes - 1) / 2
	half -= 1 - half%2
	return pair(lO, wide(half), wide(nodes-1-half))
}

func list(all ...api.Type) []api.Type {
	return all
}

func repeat[T any](v T, n int) []T {
	return slices.Repeat([]T{v}, n)
}

// span is the numbers from a to b.
func span(a, b int) []int {
	var all []int
	for n := a; n <= b; n++ {
		all = append(all, n)
	}
	return all
}

// op is an instruction of that Op and that number.
func op(op int, a ...int) api.Ins {
	i := api.Ins{Op: op}
	if len(a) > 0 {
		i.A = int64(a[0])
	}
	return i
}

func newOf(t api.Type) api.Ins {
	return api.Ins{Op: api.OpNew, T: t}
}

func classOf(l api.Lattice, funcs ...api.Func) api.Class {
	return api.Class{Lattice: l, Funcs: funcs}
}

// answer is what Check tells.
type answer struct {
	function, at int
	e            api.Errno
}

var accepted = answer{0, 0, api.OK}

func refusedAt(function, at int) answer {
	return answer{function, at, api.ErrVerify}
}

func checked(c api.Class) answer {
	k, at, e := verify.Check(c)
	return answer{k, at, e}
}

// asks holds Check, and the reference, against what is wanted.
func asks(t *testing.T, name string, c api.Class, want answer) {
	t.Helper()
	if got := checked(c); got != want {
		t.Errorf("%s: %v is told, not %v", name, got, want)
	}
	if got := refCheck(c); got != want {
		t.Errorf("%s: the reference tells %v, not %v", name, got, want)
	}
}

// gives is an accepted function of sets that takes and gives such a type, of four places.
func gives(result api.Type) api.Func {
	slots := list(result, api.Type{})
	return api.Func{
		Param: result, Result: result, Heap: lO, Exc: none, Slots: 2,
		Code: []api.Ins{op(api.OpLoad), op(api.OpStore, 1), op(api.OpLoad, 1), op(api.OpReturn)},
		Points: []api.Point{
			{Slots: slots, Env: lO}, {Stack: list(result), Slots: slots, Env: lO},
			{Slots: list(api.Type{}, result), Env: lO}, {Stack: list(result), Slots: repeat(api.Type{}, 2), Env: lO},
		},
	}
}
