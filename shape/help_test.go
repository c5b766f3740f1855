package shape_test

import (
	"slices"
	"testing"

	"palisade/api"
	"palisade/lattice"
	"palisade/shape"
)

const none = api.None

// maxShort is the greatest number that a class file has room for in most places.
const maxShort = 65535

func makeLattice(names []string, pairs ...[2]int) api.Lattice {
	l, e := lattice.Make(names, pairs)
	if e != api.OK {
		panic("no lattice")
	}
	return l
}

func single() api.Lattice {
	return makeLattice([]string{"low"})
}

// chain is low (0) below high (1).
func chain() api.Lattice {
	return makeLattice([]string{"low", "high"}, [2]int{0, 1})
}

// cube is the sets of three things, of as many labels as there may be: 0 is the greatest set, 7 the empty one.
func cube() api.Lattice {
	var pairs [][2]int
	for a := range 8 {
		for b := range 8 {
			if a&b == b {
				pairs = append(pairs, [2]int{a, b})
			}
		}
	}
	return makeLattice([]string{"all", "ab", "ac", "a", "bc", "b", "c", "none"}, pairs...)
}

func lattices() []api.Lattice {
	return []api.Lattice{single(), chain(), cube()}
}

func integer(label int) api.Type {
	return api.Type{Kind: api.Int, Label: label}
}

func ref(holds api.Type) api.Type {
	return api.Type{Kind: api.Ref, Parts: []api.Type{holds}}
}

func repeat[T any](v T, n int) []T {
	return slices.Repeat([]T{v}, n)
}

// op is an instruction of that Op and that number; of OpNew it has a type.
func op(op int, a ...int) api.Ins {
	i := api.Ins{Op: op}
	if len(a) > 0 {
		i.A = int64(a[0])
	}
	if op == api.OpNew {
		i.T = integer(0)
	}
	return i
}

// function is of that code, with as many points, one slot, and no Caps.
func function(code ...api.Ins) api.Func {
	f := api.Func{Param: integer(0), Result: integer(0), Exc: none, Code: code}
	return slotted(f, 1)
}

// slotted is f with so many slots, also in its points, of which it has as many as instructions.
func slotted(f api.Func, slots int) api.Func {
	f.Slots = slots
	f.Points = repeat(api.Point{Slots: make([]api.Type, max(slots, 0))}, len(f.Code))
	return f
}

// long is well formed and has n instructions, the last of which is an OpReturn.
func long(n int) api.Func {
	return function(append(repeat(op(api.OpInt, 7), n-1), op(api.OpReturn))...)
}

// putting is long(n) with another instruction at that place.
func putting(n, at int, i api.Ins) api.Func {
	f := long(n)
	f.Code[at] = i
	return f
}

func handled(n int, all ...api.Handler) api.Func {
	f := long(n)
	f.Handlers = all
	return f
}

func regional(n int, all ...api.Region) api.Func {
	f := long(n)
	f.Regions = all
	return f
}

// breaking has of each rule a function that breaks it and no other one; at 0 is one that is well formed.
func breaking() []api.Func {
	pointless := long(2)
	pointless.Points = nil
	return []api.Func{long(2), pointless, function(op(api.OpPop)), handled(2, api.Handler{}), regional(2, api.Region{At: 2, Join: none})}
}

func classOf(l api.Lattice, funcs ...api.Func) api.Class {
	return api.Class{Lattice: l, Funcs: funcs}
}

// asks holds Check, and the reference, against what is wanted: the function k breaks the rule, or none does, if that is 0.
func asks(t *testing.T, name string, c api.Class, k, rule int) {
	t.Helper()
	want := answer{k, rule, api.ErrVerify}
	if rule == 0 {
		want = answer{}
	}
	if got := checked(c); got != want {
		t.Errorf("%s: %v is told, not %v", name, got, want)
	}
	if got := refCheck(c); got != want {
		t.Errorf("%s: the reference tells %v, not %v", name, got, want)
	}
}

// unformed asks for -1, 0 and ErrForm.
func unformed(t *testing.T, name string, c api.Class) {
	t.Helper()
	want := answer{-1, 0, api.ErrForm}
	if got := checked(c); got != want {
		t.Errorf("%s: %v is told", name, got)
	}
}

// answer is what Check tells.
type answer struct {
	function, rule int
	e              api.Errno
}

func checked(c api.Class) answer {
	k, rule, e := shape.Check(c)
	return answer{k, rule, e}
}

// breaks asks that f breaks that rule (0: none), alone, behind others, and ahead of others of all sorts.
func breaks(t *testing.T, name string, f api.Func, rule int) {
	t.Helper()
	for _, l := range lattices() {
		asks(t, name, classOf(l, f), 0, rule)
		asks(t, name+", behind others", classOf(l, long(1), long(2), f), 2, rule)
		for other, g := range breaking() {
			k, first := 0, rule
			if rule == 0 {
				k, first = 1, other
			}
			asks(t, name+", ahead of others", classOf(l, f, g, long(2)), k, first)
		}
	}
}
