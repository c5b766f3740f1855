package vm_test

import (
	"math"
	"slices"
	"testing"

	"palisade/api"
	"palisade/class"
)

// TestLimitsRefused (P18.1): Fuel isn't 0 to MaxSteps, or Frames or Cells is below 0.
func TestLimitsRefused(t *testing.T) {
	q := ask(integer(4), cells(integer(9)), function(given, out(0), given, give))
	for _, n := range []int{-1, -2, math.MinInt, math.MinInt32} {
		q.fuel(n).refused(t)
		q.frames(n).refused(t)
		q.cells(n).refused(t)
		q.frames(n).fuel(0).refused(t)
		q.frames(0).fuel(n).refused(t)
		q.frames(0).cells(n).refused(t)
		q.frames(n).cells(n).fuel(n).refused(t)
	}
	for _, n := range []int{api.MaxSteps + 1, math.MaxInt32, math.MaxInt} {
		q.fuel(n).refused(t)
		q.frames(0).fuel(n).refused(t)
		q.frames(n).cells(n).tells(t, "returned 4, 4, 9, 4")
	}
	q.frames(1).cells(0).fuel(4).tells(t, "returned 4, 4, 9, 4")
}

// unformed are classes that aren't formed, each but for one thing like one that is.
func unformed(t *testing.T) map[string]api.Class {
	all := map[string]api.Class{"zero": {}, "no functions": {Lattice: chain()}, "no lattice": {Funcs: []api.Func{function(given, give)}}}
	change := func(what string, how func(f *api.Func)) {
		for k := range 2 {
			funcs := []api.Func{function(given, give), function(given, out(0), give)}
			how(&funcs[k])
			all[what+" of the function "+string(rune('0'+k))] = api.Class{Lattice: chain(), Funcs: funcs}
		}
	}
	change("no Param", func(f *api.Func) { f.Param = api.Type{} })
	change("a Result", func(f *api.Func) { f.Result.Label = 2 })
	change("Caps", func(f *api.Func) { f.Caps = make([]api.Type, 1) })
	change("too many Caps", func(f *api.Func) { *f = capturing(17, f.Code...) })
	change("a Heap", func(f *api.Func) { f.Heap = none })
	change("an Exc", func(f *api.Func) { f.Exc = 2 })
	change("no Slots", func(f *api.Func) { f.Slots = 0 })
	change("too many Slots", func(f *api.Func) { f.Slots = 251 })
	change("too much code", func(f *api.Func) { f.Code = repeat(2001, given) })
	change("a handler", func(f *api.Func) { f.Handlers = []api.Handler{{From: 0, To: 1, At: none}} })
	change("a point", func(f *api.Func) { f.Points = make([]api.Point, 1) })
	change("a region", func(f *api.Func) { f.Regions = []api.Region{{At: -1}} })
	for what, i := range map[string]api.Ins{
		"no Op": {}, "an Op": {Op: 28}, "a bool": truth(2), "a negative slot": load(-1), "a great slot": store(65536), "a negative place": jump(-1), "a great place": unless(65536),
		"a number": op(api.OpAdd, 1), "a type": {Op: api.OpInt, T: typed(api.Int, 0)}, "no type": {Op: api.OpNew}, "a function": closes(65536), "a label": out(-1),
	} {
		change(what, func(f *api.Func) { f.Code[0] = i })
		change(what+" behind the end", func(f *api.Func) { f.Code = append(f.Code, i) })
	}
	all["too many functions"] = api.Class{Lattice: chain(), Funcs: slices.Repeat([]api.Func{function(given, give)}, 61)}
	ring := function(given, give)
	ring.Param = typed(api.Pair, 0, typed(api.Int, 0), typed(api.Int, 0))
	ring.Param.Parts[0] = ring.Param
	all["a ring"] = api.Class{Lattice: chain(), Funcs: []api.Func{ring}}
	for what, c := range all {
		if class.Formed(c) {
			t.Error("formed:", what)
		}
	}
	return all
}

// TestUnformedClasses (P18.1): Stuck with nothing else, whether it would be come to what isn't formed or not.
func TestUnformedClasses(t *testing.T) {
	for what, c := range unformed(t) {
		t.Run(what, func(t *testing.T) {
			for _, fuel := range []int{0, 100, api.MaxSteps} {
				q := ask(integer(4), cells(integer(1))).fuel(fuel)
				q.c = c
				q.refused(t)
				q.frames(0).refused(t)
			}
		})
	}
	// What is formed needs not be well formed, nor have a certificate: see all other tests. As much of all as there may be:
	most := slices.Repeat([]api.Func{slotted(capturing(16, repeat(2000, give)...), 250)}, 60)
	most[0].Code = joined([]api.Ins{given, give}, repeat(1998, give)...)
	ask(integer(4), nil, most...).tells(t, "returned 4,,, 2")
}

// unformedValues aren't formed.
func unformedValues() []api.Value {
	ring := make([]api.Value, 2)
	ring[0], ring[1] = api.Value{Kind: api.Pair, Parts: ring}, integer(1)
	all := []api.Value{
		{}, {Kind: 6}, {Kind: -1}, boolean(2), boolean(-1), fun(-1), fun(api.MaxFuncs), ref(-1), ref(1 << 31), sized(api.MaxValue + 1), ring[0],
		{Kind: api.Int, Parts: []api.Value{integer(1)}}, {Kind: api.Pair}, {Kind: api.Pair, Parts: []api.Value{integer(1)}}, {Kind: api.Pair, N: 1, Parts: []api.Value{integer(1), integer(2)}},
		{Kind: api.Pair, Parts: []api.Value{integer(1), integer(2), integer(3)}}, {Kind: api.Ref, Parts: []api.Value{integer(1)}},
	}
	for _, v := range all {
		all = append(all, fun(3, integer(1), v))
	}
	return all
}

// TestUnformedValues (P18.1): arguments and cells' values; what the run needs of them isn't asked.
func TestUnformedValues(t *testing.T) {
	f := function(number(2), out(0), number(2), give)
	for _, v := range unformedValues() {
		for _, fuel := range []int{0, 100} {
			for _, frames := range []int{0, 1} {
				ask(v, nil, f).fuel(fuel).frames(frames).refused(t)
				ask(integer(4), cells(v), f).fuel(fuel).frames(frames).refused(t)
				ask(integer(4), cells(integer(1), v, integer(2)), f).fuel(fuel).frames(frames).refused(t)
			}
		}
	}
	// Of a cell only its value is asked: its Type may be anything, and needs not be the value's. Nor needs the argument be Param's.
	ask(pair(fun(59), ref(7)), []api.Cell{{Value: boolean(1)}, {Type: api.Type{Kind: api.Fun}, Value: integer(2)}}, f).tells(t, "returned 2, 2, true 2, 4")
	ask(sized(api.MaxValue), nil, f).holds(t, "MaxValue nodes", [4]int{api.Returned, 1, 0, 4})
}

// TestTooManyCells (P18.1): 1000 aren't too many, 1001 are, whatever the limit of cells.
func TestTooManyCells(t *testing.T) {
	f := function(given, get, give)
	most := cells(slices.Repeat([]api.Value{integer(5)}, 1000)...)
	for _, limit := range []int{0, 999, 1000, 1001, 5000} {
		ask(ref(999), most, f).cells(limit).holds(t, "1000", [4]int{api.Returned, 1, 1000, 3})
		ask(ref(999), append(slices.Clone(most), most[0]), f).cells(limit).refused(t)
		ask(ref(999), append(slices.Clone(most), most[0]), f).cells(limit).frames(0).refused(t)
	}
	ask(ref(999), slices.Concat(most, most, most), f).refused(t)
	ask(ref(999), most, f).frames(0).holds(t, "1000", [4]int{api.Exhausted, 0, 1000, 0})
}
