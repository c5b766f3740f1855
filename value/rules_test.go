package value_test

import (
	"fmt"
	"testing"

	"palisade/api"
	"palisade/types"
	"palisade/value"
)

// ring is a value that stands in itself: a Fun that captured a Fun that captured ..., after so many the first one again, each with its number.
func ring(ns ...int64) api.Value {
	parts := make([][]api.Value, len(ns))
	for i := range parts {
		parts[i] = make([]api.Value, 1)
	}
	for i, n := range ns {
		parts[i][0] = fun(n, parts[(i+1)%len(ns)]...)
	}
	return parts[0][0]
}

// ringType is a type that stands in itself.
func ringType() api.Type {
	parts := make([]api.Type, 2)
	parts[0] = api.Type{Kind: api.Pair, Parts: parts}
	parts[1] = api.Type{Kind: api.Ref, Parts: parts[:1]}
	return parts[0]
}

// shared is a value that is so deep, whose two Parts are one and the same everywhere: 2^deep - 1 nodes, if gone through one by one.
func shared(deep int, last api.Value) api.Value {
	for range deep - 1 {
		last = pair(last, last)
	}
	return last
}

// great are values of very many nodes.
func great() map[string]api.Value {
	return map[string]api.Value{
		"deep":        funs(1_000_000, num(0)),
		"wide":        wide(300_000, num(0)),
		"deep pairs":  pairs(500_000, true),
		"left pairs":  pairs(500_000, false),
		"shared":      shared(1000, num(0)),
		"a full tree": shared(18, num(0)),
		"a ring":      ring(0),
		"rings":       ring(0, 1, 0, 1, 1),
	}
}

// oddTypes are types that are formed, that aren't, and great ones.
func oddTypes() []api.Type {
	return []api.Type{{}, {Kind: 9}, integer(0), integer(7), boolean(1), pairType(0, integer(0), boolean(0)), refType(0, integer(0)), funType(0, integer(0), integer(0), 0, api.None), refTypes(100_000), pairTypes(500), ringType(), refType(0, ringType())}
}

// oddFuncs are functions of all these types.
func oddFuncs(all []api.Type) []api.Func {
	var funcs []api.Func
	for i, t := range all {
		next := all[(i+1)%len(all)]
		funcs = append(funcs, api.Func{Param: t, Result: next, Heap: i % 3, Exc: i%4 - 1}, api.Func{Param: integer(0), Result: integer(0), Caps: []api.Type{t, next}[:i%3]})
	}
	return funcs
}

// callAll makes all seven calls.
func callAll(l api.Lattice, funcs []api.Func, cells []api.Cell, all []api.Type, v, w api.Value) {
	value.Formed(v)
	value.Nodes(v)
	value.Same(v, w)
	value.Text(v)
	value.Heap(l, funcs, cells)
	for _, f := range funcs {
		value.TypeOf(l, f)
	}
	for _, t := range all {
		value.Fits(l, funcs, cells, t, v)
	}
}

// TestNothingPanics (R1).
func TestNothingPanics(t *testing.T) {
	odd := samples()
	for _, v := range great() {
		odd = append(odd, v)
	}
	for _, v := range samples() {
		odd = append(odd, changed(v)[:15]...)
	}
	lattices := []api.Lattice{chain(t), turned(t), diamond(t)}
	for _, l := range unformed() {
		lattices = append(lattices, l)
	}
	all := oddTypes()
	funcs := oddFuncs(all)
	for i, v := range odd {
		var cells []api.Cell
		for j, typ := range all {
			cells = append(cells, api.Cell{Type: typ, Value: odd[(i+j)%len(odd)]})
		}
		callAll(lattices[i%len(lattices)], funcs, cells, all, v, odd[(i+1)%len(odd)])
		callAll(chain(t), funcs[:i%5], cells[:i%3], all, v, v)
		value.Heap(chain(t), funcs, []api.Cell{{Type: integer(0), Value: num(1)}, {Type: all[i%len(all)], Value: v}})
	}
}

// TestGreatValues (P3.1, P3.3): what is asked of values that aren't formed, of very many nodes.
func TestGreatValues(t *testing.T) {
	for name, v := range great() {
		if value.Formed(v) || value.Nodes(v) != api.MaxValue+1 || !value.Same(v, v) || value.Same(v, num(0)) || value.Same(num(0), v) {
			t.Error(name)
		}
		if text, e := value.Text(v); text != "" || e != api.ErrForm {
			t.Error(name, text, e)
		}
	}
}

// TestLastOfGreatValues (P3.1): Same goes through all of a great value, to its last node.
func TestLastOfGreatValues(t *testing.T) {
	made := map[string]func(last api.Value) api.Value{
		"deep":   func(last api.Value) api.Value { return funs(200_000, last) },
		"wide":   func(last api.Value) api.Value { return wide(200_000, last) },
		"formed": func(last api.Value) api.Value { return funs(2000, last) },
		"shared": func(last api.Value) api.Value { return shared(1000, last) },
		"beside": func(last api.Value) api.Value { return pair(shared(1000, num(0)), shared(1000, last)) },
	}
	for name, make := range made {
		v := make(num(0))
		if !value.Same(v, make(num(0))) {
			t.Errorf("%s isn't like itself", name)
		}
		for _, other := range []api.Value{num(1), truth(0), fun(0), fun(0, num(0)), {}} {
			if w := make(other); value.Same(v, w) || value.Same(w, v) {
				t.Errorf("%s: Same, with %v at the end", name, other)
			}
		}
	}
}

// TestRings (R1, P3.1): values that stand in themselves are told by what they would be if gone through for ever.
func TestRings(t *testing.T) {
	if !value.Same(ring(0), ring(0, 0, 0)) || !value.Same(ring(0, 1), ring(0, 1, 0, 1)) || !value.Same(ring(1, 1), ring(1, 1, 1)) {
		t.Error("rings that are alike")
	}
	if value.Same(ring(0), ring(1)) || value.Same(ring(0, 1), ring(1, 0)) || value.Same(ring(0, 1, 0), ring(0, 1)) || value.Same(ring(0), funs(5000, num(0))) {
		t.Error("rings that are unlike")
	}
}

// roomy is v in lists that have spare room with something in it.
func roomy(v api.Value) api.Value {
	parts := make([]api.Value, 0, len(v.Parts)+3)
	for _, part := range v.Parts {
		parts = append(parts, roomy(part))
	}
	v.Parts = append(parts, num(7), truth(8), api.Value{Kind: 9})[:len(v.Parts)]
	return v
}

// whole is v with all spare room seen.
func whole(v api.Value) api.Value {
	var parts []api.Value
	for _, part := range v.Parts[:cap(v.Parts)] {
		parts = append(parts, whole(part))
	}
	v.Parts = parts
	return v
}

// roomyType and wholeType are the same of a type.
func roomyType(t api.Type) api.Type {
	parts := make([]api.Type, 0, len(t.Parts)+3)
	for _, part := range t.Parts {
		parts = append(parts, roomyType(part))
	}
	t.Parts = append(parts, integer(7), boolean(8), api.Type{Kind: 9})[:len(t.Parts)]
	return t
}

func wholeType(t api.Type) api.Type {
	var parts []api.Type
	for _, part := range t.Parts[:cap(t.Parts)] {
		parts = append(parts, wholeType(part))
	}
	t.Parts = parts
	return t
}

// TestArgumentsAreLeft (R5): what is handed in is left as it is, its spare room too, and no answer hangs on that.
func TestArgumentsAreLeft(t *testing.T) {
	for _, x := range towns(t) {
		funcs := make([]api.Func, 0, len(x.funcs)+1)
		for _, f := range x.funcs {
			f.Param, f.Result, f.Caps = roomyType(f.Param), roomyType(f.Result), roomyType(api.Type{Parts: f.Caps}).Parts
			funcs = append(funcs, f)
		}
		cells := make([]api.Cell, 0, len(x.cells)+1)
		for _, cell := range x.cells {
			cells = append(cells, api.Cell{Type: roomyType(cell.Type), Value: roomy(cell.Value)})
		}
		before, latticeBefore := seenOf(funcs, cells), fmt.Sprint(x.l)
		for i, v := range x.values {
			v, typ := roomy(v), roomyType(x.types[i%len(x.types)])
			valueBefore, typeBefore := whole(v), wholeType(typ)
			if value.Fits(x.l, funcs, cells, typ, v) != refFits(x.l, x.funcs, x.cells, x.types[i%len(x.types)], x.values[i]) || !value.Same(v, x.values[i]) || value.Nodes(v) != refNodes(v) || value.Formed(v) != refFormed(v) {
				t.Fatalf("%v: an answer hangs on spare room", x.values[i])
			}
			value.Text(v)
			value.Heap(x.l, funcs, cells)
			if !refSame(valueBefore, whole(v)) || !types.Same(typeBefore, wholeType(typ)) {
				t.Fatalf("%v or %v was changed", v, typ)
			}
		}
		for _, f := range funcs {
			value.TypeOf(x.l, f)
		}
		after := seenOf(funcs, cells)
		if !types.Same(before.Type, after.Type) || !refSame(before.Value, after.Value) || fmt.Sprint(x.l) != latticeBefore {
			t.Error("the lattice, functions or cells were changed")
		}
	}
}

// seenOf is all types and values of these, spare room too.
func seenOf(funcs []api.Func, cells []api.Cell) api.Cell {
	var seen api.Cell
	for _, f := range funcs[:cap(funcs)] {
		caps := wholeType(api.Type{Parts: f.Caps})
		seen.Type.Parts = append(seen.Type.Parts, wholeType(f.Param), wholeType(f.Result), caps, api.Type{Heap: f.Heap, Exc: f.Exc})
	}
	for _, cell := range cells[:cap(cells)] {
		seen.Type.Parts = append(seen.Type.Parts, wholeType(cell.Type))
		seen.Value.Parts = append(seen.Value.Parts, whole(cell.Value))
	}
	return seen
}

// places adds where all Parts of t stand, spare room too, to those that are known, and tells whether they were unknown.
func places(t api.Type, known map[*api.Type]int) bool {
	parts := t.Parts[:cap(t.Parts)]
	for i := range parts {
		if known[&parts[i]]++; known[&parts[i]] > 1 {
			return false
		}
	}
	for _, part := range parts {
		if !places(part, known) {
			return false
		}
	}
	return true
}

// TestTypeOfIsNewMemory (R5): it shares none with the function, nor any two of its lists.
func TestTypeOfIsNewMemory(t *testing.T) {
	param := roomyType(pairType(0, refType(1, integer(0)), funType(0, integer(0), integer(1), 1, 0)))
	for i, f := range []api.Func{{Param: param, Result: roomyType(param)}, {Param: roomyType(refTypes(4)), Result: integer(1)}} {
		known := map[*api.Type]int{}
		if !places(f.Param, known) || !places(f.Result, known) || !places(value.TypeOf(chain(t), f), known) || !places(value.TypeOf(chain(t), f), known) {
			t.Errorf("the type of %d shares memory", i)
		}
	}
	both := api.Func{Param: param, Result: param}
	if got := value.TypeOf(chain(t), both); got.Kind != api.Fun || !places(got, map[*api.Type]int{}) {
		t.Error("what it takes and gives share memory")
	}
}
