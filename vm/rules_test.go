package vm_test

import (
	"math"
	"math/rand"
	"reflect"
	"slices"
	"testing"

	"palisade/api"
	"palisade/types"
	"palisade/vm"
)

// full is a question of a class in which there is something of all that there may be, with a certificate of no meaning.
func full() question {
	cell := api.Ins{Op: api.OpNew, T: typed(api.Pair, 0, typed(api.Int, 1), typed(api.Ref, 0, typed(api.Int, 0)))}
	main := function(
		given, first, get, out(0), given, second, store(1), number(2), closes(1), pop, // 0 to 9
		load(1), number(3), call, unless(17), self, pop, jump(17), load(1), given, first, couple, cell, give, // 10 to 22
	)
	main = handled(handled(main, 0, 3, 17), 12, 13, 3)
	main.Points = []api.Point{{Stack: []api.Type{typed(api.Int, 1)}, Slots: make([]api.Type, 10), Env: 1}}
	main.Regions = []api.Region{{At: 3, Join: none, Places: []int{1, 2}}}
	q := ask(pair(ref(1), fun(1, integer(2))), cells(integer(8), integer(9)), main, capturing(1, given, load(1), op(api.OpLess), give))
	q.heap[0].Type = typed(api.Ref, 1, typed(api.Int, 0))
	q.limits = api.Limits{Fuel: 24, Frames: 2, Cells: 3}
	return q
}

// TestFull (P18.1): an ordinary question, and all that comes of one thing in it that is changed, is held against the reference.
func TestFull(t *testing.T) {
	full().tells(t, "returned r2, 9, ^8 ^9 p[f1[2] r1], 24")
	q := inRoom(full())
	ends := map[int]int{}
	asked := &struct {
		C      api.Class
		Arg    api.Value
		Heap   []api.Cell
		Limits api.Limits
	}{q.c, q.arg, q.heap, q.limits}
	each(asked, func() {
		q := question{asked.C, asked.Arg, asked.Heap, asked.Limits}
		o, want := q.run(), q.refer()
		if !alike(o, want) {
			t.Errorf("%s; want %s: %+v", told(o), told(want), q)
		}
		ends[o.Kind]++
	})
	for how := api.Returned; how <= api.Stuck; how++ {
		if ends[how] < 5 && how != api.Raised {
			t.Error("too few:", ends)
		}
	}
}

// greatTypes are of very many nodes: such as stand in themselves, are deep, share memory, or are wide.
func greatTypes() []api.Type {
	ring := make([]api.Type, 1000)
	for i := range ring {
		ring[i] = api.Type{Kind: api.Pair, Label: i, Parts: ring}
	}
	line, shared := typed(api.Int, 0), typed(api.Bool, 0)
	for i := range 100_000 {
		line = typed(api.Ref, i, line)
	}
	for range 1000 {
		shared = typed(api.Pair, 0, shared, shared)
	}
	return []api.Type{ring[7], line, shared, {Kind: -5, Label: -6, Heap: 7, Exc: 8, Parts: make([]api.Type, 5000)}}
}

// TestGreatTypes (P18.1, R1, R5): a class with such a type isn't formed; the Types of the cells at the beginning may be of any size, and are told as they were, in memory of their own.
func TestGreatTypes(t *testing.T) {
	var heap []api.Cell
	for _, odd := range greatTypes() {
		heap = append(heap, api.Cell{Type: odd, Value: integer(3)})
		for _, change := range []func(f *api.Func){
			func(f *api.Func) { f.Param = odd },
			func(f *api.Func) { f.Result = odd },
			func(f *api.Func) { f.Caps = []api.Type{odd} },
			func(f *api.Func) { f.Code = append(f.Code, api.Ins{Op: api.OpNew, T: odd}) },
			func(f *api.Func) { f.Code[0].T = odd },
			func(f *api.Func) { f.Points = []api.Point{{Slots: slices.Repeat([]api.Type{odd}, 10)}} },
			func(f *api.Func) { f.Points = []api.Point{{Slots: make([]api.Type, 10), Stack: []api.Type{odd}}} },
		} {
			f := function(given, give)
			change(&f)
			ask(integer(1), nil, f).refused(t)
			ask(integer(1), nil, function(given, give), f).refused(t)
		}
	}
	o := ask(ref(1), heap, function(given, truth(1), set, number(1), cell(0), give)).run()
	if o.Kind != api.Returned || len(o.Heap) != len(heap)+1 {
		t.Fatal(o.Kind, len(o.Heap))
	}
	for i, c := range heap {
		got := o.Heap[i].Type
		if !types.Same(got, c.Type) || &got.Parts[0] == &c.Type.Parts[0] || len(got.Parts[0].Parts) > 0 && &got.Parts[0].Parts[0] == &c.Type.Parts[0].Parts[0] {
			t.Error("the Type of the cell", i)
		}
	}
}

// TestNothingPanics (R1): arguments of all sorts and sizes.
func TestNothingPanics(t *testing.T) {
	extremes := []int{math.MinInt, math.MinInt32, -2, -1, 0, 1, 2, 27, 28, 250, 65535, 65536, math.MaxInt32, math.MaxInt}
	for _, a := range extremes {
		for _, b := range extremes {
			strange := api.Type{Kind: a, Label: b, Heap: a, Exc: b, Parts: []api.Type{{Kind: b}}}
			for which := -1; which <= 28; which++ {
				i := api.Ins{Op: which, A: int64(b)}
				f := api.Func{Param: typed(api.Int, 0), Result: typed(api.Int, 0), Slots: 3, Code: []api.Ins{given, given, i}, Handlers: []api.Handler{{From: a, To: b, At: a}}}
				arg := api.Value{Kind: a, N: int64(b)}
				for _, f := range []api.Func{f, {Heap: a, Exc: b, Slots: a, Code: []api.Ins{i}}, {Param: strange, Code: []api.Ins{{Op: a, A: int64(b), T: strange}}}} {
					vm.Run(api.Class{Lattice: chain(), Funcs: []api.Func{f}}, arg, nil, api.Limits{Fuel: 100, Frames: a, Cells: b})
					vm.Run(api.Class{Lattice: chain(), Funcs: []api.Func{f}}, ref(0), []api.Cell{{Type: strange, Value: arg}}, roomyLimits)
					vm.Run(api.Class{Lattice: chain(), Funcs: []api.Func{f}}, ref(0), cells(integer(1)), api.Limits{Fuel: 100, Frames: 3, Cells: 3})
				}
				if q := ask(fun(0), nil, f); !alike(q.run(), q.refer()) {
					t.Error(told(q.run()), "want", told(q.refer()))
				}
			}
		}
	}
	vm.Run(api.Class{}, api.Value{}, nil, api.Limits{})
	vm.Run(api.Class{Lattice: chain(), Funcs: make([]api.Func, 1_000_000)}, api.Value{}, make([]api.Cell, 1_000_000), api.Limits{Fuel: math.MinInt})
	line := integer(1)
	for range 1_000_000 {
		line = fun(1, line)
	}
	ask(line, nil, function(given, give)).refused(t)
	ask(integer(1), cells(line), function(given, give)).refused(t)
}

// TestGreatRuns (R1): classes of as much as there may be, and runs of as many steps and frames, with great values, are soon at their end.
func TestGreatRuns(t *testing.T) {
	// Each raise is held against all handlers, the last of which takes it.
	loops := function(given, throw)
	for range api.MaxCode - 1 {
		loops = handled(loops, 0, 1, 0)
	}
	ask(integer(4), nil, handled(loops, 1, 2, 1)).holds(t, "handlers", [4]int{api.OutOfFuel, 0, 0, api.MaxSteps})
	// Frames that all have filled their last slot, and captured and stacked as much as may be, are left by one raise.
	deep := capturing(16, joined([]api.Ins{given, store(249)}, joined(repeat(6, load(16)), self, given, call)...)...)
	deep.Slots = api.MaxSlots
	v := fun(1, slices.Repeat([]api.Value{integer(5)}, 16)...)
	q := ask(v, nil, function(given, given, call, give), deep).frames(1 << 40)
	if got := endOf(q.run()); got != [4]int{api.OutOfFuel, 0, 0, api.MaxSteps} {
		t.Error(got)
	}
	// Great Pairs are made over and over; great values are told in many cells.
	q = ask(sized(1998), nil, function(given, number(1), couple, pop, jump(0)))
	q.holds(t, "pairs", [4]int{api.OutOfFuel, 0, 0, api.MaxSteps})
	q = ask(sized(400), nil, function(given, cell(0), pop, jump(0))).cells(1 << 40).fuel(20000)
	q.holds(t, "cells", [4]int{api.OutOfFuel, 0, 5000, 20000})
}

// handed is all that is handed in.
func (q question) handed() []any {
	return []any{q.c, q.arg, q.heap}
}

func wholes(all ...any) []any {
	var made []any
	for _, v := range all {
		made = append(made, whole(v))
	}
	return made
}

// inRoom is q in lists that all have spare room with something in it.
func inRoom(q question) question {
	return question{roomy(q.c), roomy(q.arg), roomy(q.heap), q.limits}
}

// TestArgumentsAreLeft (R5): what is handed in is left as it is, its spare room too, and no answer hangs on that.
func TestArgumentsAreLeft(t *testing.T) {
	eachWild(5, 500, func(w *wild, plainly question) {
		q := inRoom(plainly)
		before := wholes(q.handed()...)
		o := q.run()
		if !reflect.DeepEqual(before, wholes(q.handed()...)) {
			t.Fatalf("%+v was changed", plainly)
		}
		if !alike(o, plainly.run()) {
			t.Fatalf("%+v: an answer hangs on spare room", plainly)
		}
	})
}

// TestNewMemory (R5): an answer shares no memory with what was handed in, within itself, or with another answer, and one that is changed changes nothing.
func TestNewMemory(t *testing.T) {
	answered := 0
	eachWild(55, 700, func(w *wild, q question) {
		q = inRoom(q)
		before := wholes(q.handed()...)
		first, second := q.run(), q.run()
		if len(first.Value.Parts) > 0 && len(first.Heap) > 0 {
			answered++
		}
		if !apart(append(q.handed(), first, second)...) {
			t.Fatalf("%+v: memory is shared", q)
		}
		kept := wholes(second)
		spoil(reflect.ValueOf(first))
		if !reflect.DeepEqual(kept, wholes(second)) || !reflect.DeepEqual(before, wholes(q.handed()...)) || !alike(second, q.run()) {
			t.Fatalf("%+v: something was changed", q)
		}
	})
	if answered < 100 {
		t.Error("too few:", answered)
	}
}

// spoil sets all that stands in v's lists to zero.
func spoil(v reflect.Value) {
	switch v.Kind() {
	case reflect.Struct:
		for i := range v.NumField() {
			spoil(v.Field(i))
		}
	case reflect.Slice:
		v = v.Slice(0, v.Cap())
		for i := range v.Len() {
			spoil(v.Index(i))
			v.Index(i).SetZero()
		}
	}
}

// TestSharedAnswer (R5): one value, and one type, in several places of an answer stands in memory of its own in each.
func TestSharedAnswer(t *testing.T) {
	both := typed(api.Pair, 0, typed(api.Ref, 0, typed(api.Int, 0)), typed(api.Bool, 0))
	made := api.Ins{Op: api.OpNew, T: both}
	f := function(given, given, couple, store(1), given, load(1), closes(1), store(2), load(2), made, pop, load(2), made, get, load(2), couple, give)
	arg := pair(pair(integer(1), integer(2)), fun(3, ref(0), ref(1)))
	arg.Parts[1].Parts[0] = arg.Parts[0]
	q := ask(arg, []api.Cell{{Type: both, Value: arg}, {Type: both, Value: arg}}, f, capturing(2))
	if o := q.run(); !apart(o) {
		t.Error("shared memory that is handed in is told as such")
	}
	q = inRoom(q)
	o := q.run()
	if o.Kind != api.Returned || len(o.Heap) != 4 || !apart(append(q.handed(), o)...) || !alike(o, q.refer()) {
		t.Error(told(o))
	}
}

// TestNoElements (R5): a list of no elements may be nil or empty.
func TestNoElements(t *testing.T) {
	f := function(closes(0), api.Ins{Op: api.OpNew, T: api.Type{Kind: api.Int, Parts: []api.Type{}}}, pop, given, give)
	f.Caps, f.Handlers, f.Points, f.Regions, f.Param.Parts = []api.Type{}, []api.Handler{}, []api.Point{}, []api.Region{}, []api.Type{}
	ask(api.Value{Kind: api.Fun, N: 3, Parts: []api.Value{}}, []api.Cell{}, f).tells(t, "returned f3[],, f0[], 5")
	ask(api.Value{Kind: api.Int, Parts: []api.Value{}}, []api.Cell{}, function(given, give), api.Func{Param: f.Param, Result: f.Param, Slots: 1, Code: []api.Ins{}}).tells(t, "returned 0,,, 2")
	ask(api.Value{Kind: api.Fun, Parts: []api.Value{}}, nil, function(given, number(1), call), api.Func{}).refused(t)
	// What a Fun captured may be no elements of either sort.
	ask(api.Value{Kind: api.Fun, N: 1, Parts: []api.Value{}}, nil, function(given, number(1), call, give), function(given, give)).tells(t, "returned 1,,, 6")
}

// TestZero (R3, R6): beside an end without a value that is the zero value, and beside a class or an argument that isn't formed all is.
func TestZero(t *testing.T) {
	for _, q := range []question{code(jump(0)).fuel(3), code(add), code(given, cell(0)).cells(0), code(given, give).frames(0)} {
		if o := q.run(); !reflect.DeepEqual(o.Value, api.Value{}) {
			t.Error(told(o))
		}
	}
	if o := ask(api.Value{}, cells(integer(1)), function(given, give)).run(); !reflect.DeepEqual(o, api.Outcome{Kind: api.Stuck}) {
		t.Errorf("%+v", o)
	}
}

// TestAgain (R7): what is answered hangs on nothing but what is given.
func TestAgain(t *testing.T) {
	w := &wild{Rand: rand.New(rand.NewSource(7)), odd: 40}
	var asked []question
	var answers []api.Outcome
	for range 300 {
		q := w.question()
		asked, answers = append(asked, q), append(answers, q.run())
	}
	for i, q := range slices.Backward(asked) {
		if !alike(q.run(), answers[i]) {
			t.Fatalf("%+v: another answer", q)
		}
	}
}
