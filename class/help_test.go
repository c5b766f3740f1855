package class_test

import (
	"encoding/binary"
	"fmt"
	"slices"
	"testing"

	"palisade/api"
	"palisade/class"
	"palisade/lattice"
)

const none = api.None

// maxShort is the greatest number that two bytes have room for.
const maxShort = 65535

func makeLattice(names []string, pairs ...[2]int) api.Lattice {
	l, e := lattice.Make(names, pairs)
	if e != api.OK {
		panic("no lattice")
	}
	return l
}

func single() api.Lattice {
	return makeLattice([]string{"low"})
}

// chain is low (0) below high (1).
func chain() api.Lattice {
	return makeLattice([]string{"low", "high"}, [2]int{0, 1})
}

// diamond has 0 below 1 and 2, which are below 3, and not below one another.
func diamond() api.Lattice {
	return makeLattice([]string{"low", "left", "right", "high"}, [2]int{0, 1}, [2]int{0, 2}, [2]int{1, 3}, [2]int{2, 3})
}

// cube is the sets of three things, of as many labels as there may be: 0 is the greatest set, 7 the empty one.
func cube() api.Lattice {
	var pairs [][2]int
	for a := range 8 {
		for b := range 8 {
			if a&b == b {
				pairs = append(pairs, [2]int{a, b})
			}
		}
	}
	return makeLattice([]string{"all", "ab", "ac", "a", "bc", "b", "c", "\u03b1\u03c9"}, pairs...)
}

func lattices() []api.Lattice {
	return []api.Lattice{single(), chain(), diamond(), cube()}
}

func integer(label int) api.Type {
	return api.Type{Kind: api.Int, Label: label}
}

func boolean(label int) api.Type {
	return api.Type{Kind: api.Bool, Label: label}
}

func pair(label int, first, second api.Type) api.Type {
	return api.Type{Kind: api.Pair, Label: label, Parts: []api.Type{first, second}}
}

func ref(label int, holds api.Type) api.Type {
	return api.Type{Kind: api.Ref, Label: label, Parts: []api.Type{holds}}
}

func fun(label int, takes, gives api.Type, heap, exc int) api.Type {
	return api.Type{Kind: api.Fun, Label: label, Parts: []api.Type{takes, gives}, Heap: heap, Exc: exc}
}

// refs is a chain of Refs that is so deep, with last at its end.
func refs(deep int, last api.Type) api.Type {
	for range deep - 1 {
		last = ref(0, last)
	}
	return last
}

// tree is Pairs of Pairs, full, so deep.
func tree(deep int) api.Type {
	if deep == 1 {
		return integer(0)
	}
	return pair(0, tree(deep-1), tree(deep-1))
}

// forty is a type of MaxNodes nodes that is MaxDeep deep.
func forty() api.Type {
	return pair(0, tree(5), ref(0, tree(3)))
}

// fortyOne has one node more, and is no deeper.
func fortyOne() api.Type {
	return pair(0, tree(5), pair(0, tree(3), integer(0)))
}

func repeat[T any](v T, n int) []T {
	return slices.Repeat([]T{v}, n)
}

// plain is the least function there is.
func plain() api.Func {
	return api.Func{Param: integer(0), Result: integer(0), Slots: 1}
}

func classOf(l api.Lattice, funcs ...api.Func) api.Class {
	return api.Class{Lattice: l, Funcs: funcs}
}

// full is a class, of the diamond, in which there is something of all that there may be.
func full() api.Class {
	i, b := integer(0), boolean(3)
	two := pair(0, i, i)
	taken := fun(1, i, ref(2, b), 2, none)
	first := api.Func{
		Param: taken, Result: two, Caps: []api.Type{b, i}, Heap: 1, Exc: 3, Slots: 3,
		Code:     allOps(ref(0, two)),
		Handlers: []api.Handler{{From: 0, To: 4, At: 7}, {From: maxShort, To: 0, At: 1}},
		Points: []api.Point{
			{Slots: []api.Type{taken, b, i}},
			{Stack: []api.Type{i, boolean(0), two}, Slots: []api.Type{taken, {}, {}}, Env: 3},
			{Stack: []api.Type{i}, Slots: []api.Type{{}, ref(2, b), {}}, Env: 1},
		},
		Regions: []api.Region{{At: 3, Join: none, Places: []int{4, 5, 6}}, {At: 4, Join: 0}, {At: 9, Join: 65534, Places: []int{maxShort}}},
	}
	last := api.Func{Param: b, Result: integer(2), Exc: none, Slots: 1}
	return classOf(diamond(), first, last)
}

// allOps is an instruction of each Op, in their order; OpNew has that type.
func allOps(t api.Type) []api.Ins {
	var code []api.Ins
	for op := api.OpInt; op <= api.OpReturn; op++ {
		i := api.Ins{Op: op}
		switch op {
		case api.OpInt:
			i.A = -2
		case api.OpBool:
			i.A = 1
		case api.OpLoad, api.OpStore, api.OpClose, api.OpOut, api.OpJump, api.OpUnless:
			i.A = int64(256*op + 1)
		case api.OpNew:
			i.T = t
		}
		code = append(code, i)
	}
	return code
}

// fields is bytes: of an int a short, of an int64 a long, of a string a text, of bytes these.
func fields(all ...any) []byte {
	var out []byte
	for _, v := range all {
		switch v := v.(type) {
		case int:
			out = binary.BigEndian.AppendUint16(out, uint16(v))
		case int64:
			out = binary.BigEndian.AppendUint64(out, uint64(v))
		case string:
			out = append(binary.BigEndian.AppendUint16(out, uint16(len(v))), v...)
		case []byte:
			out = append(out, v...)
		default:
			panic("no field")
		}
	}
	return out
}

// told is all of a class, or of something in it, in one text; lists without elements are told alike.
func told(v any) string {
	return fmt.Sprintf("%+v", v)
}

// encoded is the bytes of a class that has some.
func encoded(t *testing.T, c api.Class) []byte {
	t.Helper()
	b, e := class.Encode(c)
	if e != api.OK {
		t.Fatal("no bytes:", e)
	}
	return b
}

// isBad asks for ErrBad and nothing beside it.
func isBad(t *testing.T, name string, b []byte) {
	t.Helper()
	if c, e := class.Decode(b); e != api.ErrBad || !empty(c) {
		t.Errorf("%s: %v, %+v", name, e, c)
	}
}

// empty tells whether c is zero, but for lists that are empty.
func empty(c api.Class) bool {
	return len(c.Lattice.Names) == 0 && len(c.Lattice.Order) == 0 && len(c.Funcs) == 0
}
