package value_test

import (
	"fmt"
	"math"
	"testing"

	"palisade/api"
	"palisade/types"
	"palisade/value"
)

// TestTypeOf (P3.2): the Label is the lattice's bottom, wherever that stands; Caps and all else of the function mean nothing.
func TestTypeOf(t *testing.T) {
	f := api.Func{Param: integer(1), Result: pairType(0, boolean(1), refType(1, integer(0))), Heap: 1, Exc: api.None}
	g := f
	g.Exc, g.Heap, g.Slots = 1, 0, -3
	g.Caps = []api.Type{{}, {Kind: 9}}
	g.Code = []api.Ins{{Op: 99}}
	for _, x := range []struct {
		l      api.Lattice
		bottom int
	}{{chain(t), 0}, {turned(t), 2}, {diamond(t), 2}, {makeLattice(t, []string{"high", "low"}, [2]int{1, 0}), 1}} {
		if got := value.TypeOf(x.l, f); !types.Same(got, funType(x.bottom, f.Param, f.Result, 1, api.None)) {
			t.Errorf("TypeOf(%v): %v", x.l.Names, got)
		}
		if got := value.TypeOf(x.l, g); !types.Same(got, funType(x.bottom, f.Param, f.Result, 0, 1)) {
			t.Errorf("TypeOf(%v): %v", x.l.Names, got)
		}
	}
}

// unformedFuncs are functions whose type isn't formed, of two labels.
func unformedFuncs() map[string]api.Func {
	i := integer(0)
	return map[string]api.Func{
		"zero":           {},
		"no Param":       {Result: i},
		"no Result":      {Param: i},
		"Param's label":  {Param: integer(2), Result: i},
		"Result's label": {Param: i, Result: integer(api.None)},
		"Param's Exc":    {Param: api.Type{Kind: api.Int, Exc: api.None}, Result: i},
		"no Heap":        {Param: i, Result: i, Heap: api.None},
		"Heap":           {Param: i, Result: i, Heap: 2},
		"Exc":            {Param: i, Result: i, Exc: 2},
		"Exc below None": {Param: i, Result: i, Exc: -2},
		"deep Param":     {Param: refTypes(6), Result: i},
		"deep Result":    {Param: i, Result: refTypes(6)},
		"many nodes":     {Param: pairTypes(5), Result: pairType(0, pairTypes(3), i)},
	}
}

// TestTypeOfNone (P3.2): the zero type, where it isn't formed; just below those edges it is.
func TestTypeOfNone(t *testing.T) {
	for name, f := range unformedFuncs() {
		if got := value.TypeOf(chain(t), f); !types.Same(got, api.Type{}) {
			t.Errorf("%s: %v", name, got)
		}
	}
	good := api.Func{Param: integer(0), Result: integer(1), Heap: 1, Exc: 1}
	for name, l := range unformed() {
		if got := value.TypeOf(l, good); !types.Same(got, api.Type{}) {
			t.Errorf("%s: %v", name, got)
		}
	}
	for i, f := range []api.Func{good, {Param: refTypes(5), Result: refTypes(5)}, {Param: pairTypes(5), Result: pairTypes(3)}, {Param: pairTypes(5), Result: pairType(0, pairTypes(2), refTypes(4))}} {
		want := funType(0, f.Param, f.Result, f.Heap, f.Exc)
		if got := value.TypeOf(chain(t), f); !types.Same(got, want) || got.Kind != api.Fun {
			t.Errorf("%d: %v", i, got)
		}
	}
}

// town is a lattice with functions, cells, types and values, to be held against each other.
type town struct {
	l      api.Lattice
	funcs  []api.Func
	cells  []api.Cell
	types  []api.Type
	values []api.Value
}

// someTypes are types of these labels: all up to two deep with the least and the greatest, some with those between, some deeper, and such as aren't formed.
func someTypes(labels ...int) []api.Type {
	low, high := labels[0], labels[len(labels)-1]
	simple := []api.Type{integer(low), boolean(low), integer(high), boolean(high)}
	var all []api.Type
	for _, a := range labels {
		all = append(all, integer(a), boolean(a), refType(low, integer(a)), pairType(a, integer(a), boolean(low)), funType(a, integer(low), boolean(high), a, high), funType(high, integer(a), boolean(a), low, a))
	}
	for _, a := range []int{low, high} {
		for _, first := range simple {
			all = append(all, refType(a, first))
			for _, second := range simple {
				all = append(all, pairType(a, first, second))
				for _, exc := range []int{api.None, low, high} {
					all = append(all, funType(a, first, second, low, exc), funType(a, first, second, high, exc))
				}
			}
		}
	}
	all = append(all, refType(low, refType(low, integer(low))), refType(low, refType(high, integer(low))), pairType(low, refType(low, integer(high)), funType(high, integer(low), boolean(high), low, high)))
	return append(all, api.Type{}, api.Type{Kind: 6}, integer(8), api.Type{Kind: api.Bool, Heap: 1}, api.Type{Kind: api.Pair}, api.Type{Kind: api.Fun}, api.Type{Kind: api.Ref}, funType(low, integer(low), integer(low), 9, low), refTypes(7), pairType(low, integer(low), integer(api.None)))
}

// someFuncs are functions with none, one and two Caps, those that aren't formed too.
func someFuncs(low, high int) []api.Func {
	f := func(param, result api.Type, heap, exc int, caps ...api.Type) api.Func {
		return api.Func{Param: param, Result: result, Heap: heap, Exc: exc, Caps: caps}
	}
	plain := funType(high, integer(low), boolean(high), low, high)
	return []api.Func{
		f(integer(low), boolean(high), low, high),
		f(integer(high), boolean(low), high, api.None),
		f(integer(low), integer(low), high, low, integer(low)),
		f(boolean(high), boolean(low), low, low, boolean(high), refType(low, integer(high))),
		f(integer(low), boolean(low), high, api.None, plain),
		f(integer(low), boolean(low), high, api.None, pairType(low, plain, integer(high)), boolean(low)),
		f(integer(low), integer(low), low, low, integer(9)),
		f(integer(low), integer(low), low, low, boolean(low), refTypes(7)),
		f(integer(low), integer(9), low, low),
		f(integer(low), integer(low), 9, low, integer(low)),
	}
}

// someValues are values of all Kinds, formed and not, of functions and cells that are there and that aren't.
func someValues() []api.Value {
	some := []api.Value{num(-4), truth(1), ref(0), fun(1), {}, truth(2), fun(4, fun(0)), pair(fun(1), num(0))}
	all := append([]api.Value{truth(0), {Kind: 6}, ref(-1), ref(1<<31 - 1), ref(1 << 31), ref(1 << 32), fun(60), fun(1 << 32), {Kind: api.Pair, N: 1, Parts: []api.Value{num(1), num(1)}}}, some...)
	for n := range int64(12) {
		all = append(all, ref(n), fun(n), fun(n, truth(1), ref(0), num(1)), pair(ref(n), fun(1)), fun(n, truth(0), ref(n)), fun(n, ref(n)), fun(n, fun(n)))
		for _, v := range some {
			all = append(all, fun(n, v), fun(n, v, truth(1)), fun(n, truth(1), v), pair(v, some[n%8]))
		}
	}
	return all
}

func towns(t *testing.T) []town {
	var all []town
	for _, x := range []struct {
		l      api.Lattice
		labels []int
	}{{chain(t), []int{0, 1}}, {turned(t), []int{2, 1, 0}}, {diamond(t), []int{2, 0, 1, 3}}} {
		low, high := x.labels[0], x.labels[len(x.labels)-1]
		cells := []api.Cell{
			{Type: integer(high), Value: num(1)}, {Type: integer(low), Value: num(2)}, {Type: boolean(high), Value: num(3)}, {Type: refType(low, integer(low)), Value: ref(1)},
			{Type: refType(low, integer(high)), Value: ref(0)}, {Type: pairType(low, integer(low), boolean(low)), Value: api.Value{}}, {}, {Type: integer(9), Value: num(1)},
		}
		all = append(all, town{x.l, someFuncs(low, high), cells, someTypes(x.labels...), someValues()})
	}
	return all
}

// TestFits (P3.2): each value by each type, against the reference; of each Kind some fit and some don't.
func TestFits(t *testing.T) {
	for _, x := range towns(t) {
		fitting := map[string]int{}
		for _, typ := range x.types {
			for _, v := range x.values {
				got := value.Fits(x.l, x.funcs, x.cells, typ, v)
				if got != refFits(x.l, x.funcs, x.cells, typ, v) {
					t.Fatalf("Fits of %v and %v: %v", typ, v, got)
				}
				fitting[fmt.Sprint(v.Kind, got)]++
			}
		}
		for kind := 1; kind <= 5; kind++ {
			if fitting[fmt.Sprint(kind, true)] == 0 || fitting[fmt.Sprint(kind, false)] == 0 {
				t.Errorf("of Kind %d: %v", kind, fitting)
			}
		}
	}
}

// TestFitsAbove (P3.4): what fits a type fits each type above it.
func TestFitsAbove(t *testing.T) {
	for _, x := range towns(t) {
		fitting := make([][]bool, len(x.types))
		for i, typ := range x.types {
			for _, v := range x.values {
				fitting[i] = append(fitting[i], value.Fits(x.l, x.funcs, x.cells, typ, v))
			}
		}
		for i, lower := range x.types {
			for j, upper := range x.types {
				if !types.Below(x.l, lower, upper) {
					continue
				}
				for k, v := range x.values {
					if fitting[i][k] && !fitting[j][k] {
						t.Fatalf("%v fits %v, but not %v", v, lower, upper)
					}
				}
			}
		}
	}
}

// TestFitsWithMore (P3.4): more cells, and more functions behind, take no fit away; fewer do.
func TestFitsWithMore(t *testing.T) {
	for _, x := range towns(t) {
		lost := 0
		for n := range len(x.funcs) {
			funcs, cells := x.funcs[:n], x.cells[:min(n, len(x.cells))]
			for _, typ := range x.types {
				for i := n % 3; i < len(x.values); i += 3 {
					v := x.values[i]
					less, more := value.Fits(x.l, funcs, cells, typ, v), value.Fits(x.l, x.funcs, x.cells, typ, v)
					if less && !more || less != refFits(x.l, funcs, cells, typ, v) {
						t.Fatalf("of %d functions and cells: %v and %v: %v, of more %v", n, typ, v, less, more)
					}
					if more && !less {
						lost++
					}
				}
			}
		}
		if lost == 0 {
			t.Error("no fit hangs on functions and cells")
		}
	}
}

// TestFitsEdges (P3.2): each of the chapter's words by itself.
func TestFitsEdges(t *testing.T) {
	i, b := integer(0), boolean(0)
	f := api.Func{Param: i, Result: i, Heap: 1, Exc: api.None, Caps: []api.Type{b, i}}
	none := api.Func{Param: i, Result: i, Heap: 1, Exc: api.None}
	bad := api.Func{Param: i, Result: i, Heap: 1, Exc: api.None, Caps: []api.Type{{}}}
	funcs := []api.Func{f, none, bad}
	cells := []api.Cell{{Type: i, Value: truth(1)}, {Type: integer(1)}}
	ft := funType(0, i, i, 1, api.None)
	for _, x := range []struct {
		what string
		t    api.Type
		v    api.Value
		want bool
	}{
		{"an Int", i, num(math.MinInt64), true}, {"an Int of another label", integer(1), num(-1), true}, {"an Int by a Bool", b, num(1), false}, {"a Bool by an Int", i, truth(1), false},
		{"a Bool", b, truth(0), true}, {"a Bool of 2", b, truth(2), false}, {"a Kind that is none", i, api.Value{Kind: 6}, false}, {"a type's Kind that is none", api.Type{Kind: 6}, num(0), false}, {"zero by zero", api.Type{}, api.Value{}, false},
		{"an Int with a part", i, api.Value{Kind: api.Int, Parts: []api.Value{num(1)}}, false}, {"no label", integer(2), num(1), false},
		{"a Pair", pairType(1, i, b), pair(num(1), truth(1)), true}, {"a Pair turned", pairType(1, i, b), pair(truth(1), num(1)), false}, {"a Pair's second", pairType(1, i, b), pair(num(1), num(1)), false}, {"a Pair's first", pairType(1, i, b), pair(truth(1), truth(1)), false},
		{"a Fun", ft, fun(0, truth(1), num(3)), true}, {"one Part less", ft, fun(0, truth(1)), false}, {"no Part", ft, fun(0), false}, {"one Part more", ft, fun(0, truth(1), num(3), num(3)), false}, {"Parts turned", ft, fun(0, num(3), truth(1)), false}, {"the last Part", ft, fun(0, truth(1), truth(1)), false},
		{"a Fun that has captured nothing", ft, fun(1), true}, {"a Part that isn't asked for", ft, fun(1, num(1)), false}, {"a Cap that isn't formed", ft, fun(2, num(1)), false}, {"zero by a zero Cap", ft, fun(2, api.Value{}), false}, {"no Part for a Cap that isn't formed", ft, fun(2), false},
		{"no such function", ft, fun(3), false}, {"the last that may be", ft, fun(59), false}, {"beyond", ft, fun(60), false}, {"below 0", ft, fun(-1), false},
		{"a greater label", funType(1, i, i, 1, api.None), fun(1), true}, {"it takes more", funType(0, integer(1), i, 1, api.None), fun(1), false}, {"it gives less", funType(0, i, integer(1), 1, api.None), fun(1), true}, {"a lesser Heap", funType(0, i, i, 0, api.None), fun(1), true}, {"an Exc", funType(0, i, i, 1, 0), fun(1), true},
		{"another Kind taken", funType(0, b, i, 1, api.None), fun(1), false}, {"another Kind given", funType(0, i, b, 1, api.None), fun(1), false},
		{"a Ref", refType(0, i), ref(0), true}, {"a Ref of a greater label", refType(1, i), ref(0), true}, {"a Ref of a lesser cell", refType(0, integer(1)), ref(0), false}, {"a Ref of a greater cell", refType(0, i), ref(1), false}, {"another cell", refType(0, integer(1)), ref(1), true},
		{"no such cell", refType(0, i), ref(2), false}, {"the last cell that may be", refType(0, i), ref(1<<31 - 1), false}, {"a cell beyond", refType(0, i), ref(1 << 31), false}, {"a cell's number that wraps round", refType(0, i), ref(1 << 32), false}, {"a cell below 0", refType(0, i), ref(-1), false},
	} {
		if got := value.Fits(chain(t), funcs, cells, x.t, x.v); got != x.want {
			t.Errorf("%s: %v", x.what, got)
		}
	}
}

// TestFitsOnlyFormed (P3.2): of a lattice, a type, a function's type that isn't formed nothing fits.
func TestFitsOnlyFormed(t *testing.T) {
	for name, l := range unformed() {
		f := api.Func{Param: integer(0), Result: integer(0)}
		cells := []api.Cell{{Type: integer(0)}}
		for typ, v := range map[int]api.Value{api.Int: num(0), api.Bool: truth(1), api.Fun: fun(0), api.Ref: ref(0)} {
			of := api.Type{Kind: typ}
			switch typ {
			case api.Fun:
				of = funType(0, f.Param, f.Result, 0, 0)
			case api.Ref:
				of = refType(0, integer(0))
			}
			if value.Fits(l, []api.Func{f}, cells, of, v) {
				t.Errorf("%s: %v fits", name, v)
			}
			if !value.Fits(chain(t), []api.Func{f}, cells, of, v) {
				t.Errorf("%v doesn't fit", v)
			}
		}
	}
	for name, f := range unformedFuncs() {
		for _, of := range []api.Type{funType(0, f.Param, f.Result, f.Heap, f.Exc), funType(1, integer(0), integer(0), 0, 1), {}} {
			if value.Fits(chain(t), []api.Func{f}, nil, of, fun(0)) {
				t.Errorf("%s fits %v", name, of)
			}
		}
	}
	cells := []api.Cell{{Type: integer(9)}, {}, {Type: refTypes(6)}}
	for n, cell := range cells {
		if value.Fits(chain(t), nil, cells, refType(0, cell.Type), ref(int64(n))) {
			t.Errorf("a Ref of the cell %d fits", n)
		}
	}
}

// TestFitsSizes (P3.2): of MaxValue nodes it fits, of one more not.
func TestFitsSizes(t *testing.T) {
	i := integer(0)
	ft := funType(0, i, i, 0, 0)
	caps := func(n int) []api.Type {
		all := make([]api.Type, n)
		for a := range all {
			all[a] = i
		}
		return all
	}
	chainOf := []api.Func{{Param: i, Result: i, Caps: []api.Type{ft}}, {Param: i, Result: i}}
	for _, n := range []int{2, 3, 1999, 2000, 2001, 2002, 50_000} {
		if got := value.Fits(chain(t), chainOf, nil, ft, funs(n, fun(1))); got != (n <= 2000) {
			t.Errorf("%d nodes, deep: %v", n, got)
		}
		if value.Fits(chain(t), chainOf, nil, ft, funs(n, num(1))) {
			t.Errorf("%d nodes, deep, with an Int at the end", n)
		}
		wideOf := []api.Func{{Param: i, Result: i, Caps: caps(n - 1)}}
		if got := value.Fits(chain(t), wideOf, nil, ft, wide(n, num(1))); got != (n <= 2000) {
			t.Errorf("%d nodes, wide: %v", n, got)
		}
		if value.Fits(chain(t), wideOf, nil, ft, wide(n, truth(1))) {
			t.Errorf("%d nodes, wide, with a Bool at the end", n)
		}
	}
}

// TestHeap (P3.2): each cell's value is asked, the last one too, by its own Type, with all cells there.
func TestHeap(t *testing.T) {
	l := chain(t)
	i := integer(0)
	f := []api.Func{{Param: i, Result: i, Caps: []api.Type{refType(0, i)}}}
	good := []api.Cell{
		{Type: i, Value: num(1)}, {Type: refType(1, boolean(1)), Value: ref(3)}, {Type: funType(1, i, i, 0, 0), Value: fun(0, ref(0))}, {Type: boolean(1), Value: truth(1)},
		{Type: pairType(0, refType(0, i), integer(1)), Value: pair(ref(0), num(9))}, {Type: refType(0, refType(1, boolean(1))), Value: ref(1)},
	}
	if !value.Heap(l, f, good) || !value.Heap(l, f, good[:1]) {
		t.Error("good cells")
	}
	if !value.Heap(l, nil, nil) || !value.Heap(l, f, []api.Cell{}) || !value.Heap(api.Lattice{}, nil, nil) {
		t.Error("no cells")
	}
	if value.Heap(l, nil, good) || value.Heap(l, f, good[:3]) || !value.Heap(l, f, good[:5]) || value.Heap(api.Lattice{}, f, good) {
		t.Error("without functions, cells or a lattice")
	}
	for n := range good {
		for _, cell := range []api.Cell{{}, {Type: good[n].Type}, {Value: good[n].Value}, {Type: integer(2), Value: num(1)}, {Type: i, Value: truth(1)}, {Type: refType(0, i), Value: ref(6)}} {
			cells := append([]api.Cell{}, good...)
			cells[n] = cell
			if value.Heap(l, f, cells) {
				t.Errorf("with %v as cell %d", cell, n)
			}
		}
	}
	itself := []api.Cell{{Type: refType(0, i), Value: ref(0)}}
	if value.Heap(l, nil, itself) || !value.Heap(l, nil, append([]api.Cell{{Type: i, Value: num(1)}}, itself...)) {
		t.Error("a cell of itself")
	}
}

// TestHeapIsFits (P3.2): against the reference's Fits, with two cells behind that fit.
func TestHeapIsFits(t *testing.T) {
	for _, x := range towns(t) {
		holding := 0
		for i, typ := range x.types {
			for j := i % 5; j < len(x.values); j += 5 {
				cells := append([]api.Cell{{Type: typ, Value: x.values[j]}}, x.cells[:2]...)
				want := refFits(x.l, x.funcs, cells, typ, x.values[j])
				if value.Heap(x.l, x.funcs, cells) != want {
					t.Fatalf("Heap with %v: %v", cells[0], !want)
				}
				if want {
					holding++
				}
			}
		}
		if holding == 0 {
			t.Error("no cells hold")
		}
	}
}
