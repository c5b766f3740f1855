package ireval_test

import (
	"math"
	"math/rand"
	"reflect"
	"slices"
	"testing"

	"palisade/api"
	"palisade/ir"
	"palisade/ireval"
	"palisade/types"
)

// greatTypes are of very many nodes: such as stand in themselves, are deep, share memory, or are wide.
func greatTypes() []api.Type {
	ring := make([]api.Type, 1000)
	for i := range ring {
		ring[i] = api.Type{Kind: api.Pair, Label: i, Parts: ring}
	}
	line, shared := api.Type{Kind: api.Int}, api.Type{Kind: api.Bool}
	for i := range 100_000 {
		line = api.Type{Kind: api.Ref, Label: i, Parts: []api.Type{line}}
	}
	for range 1000 {
		shared = api.Type{Kind: api.Pair, Parts: []api.Type{shared, shared}}
	}
	return []api.Type{ring[7], line, shared, {Kind: -5, Label: -6, Heap: 7, Exc: 8, Parts: make([]api.Type, 5000)}}
}

// greatBodies are of very many nodes: deep, such as share memory, rings, and wide.
func greatBodies() [][]ir.Node {
	deep, shared := list(number(1, 1)), list(number(1, 1))
	for range 1_000_000 {
		deep = list(try(1, deep, nil))
	}
	for range 1000 {
		shared = list(choice(0, shared, shared))
	}
	ring, odd := make([]ir.Node, 1), make([]ir.Node, 1)
	ring[0] = try(1, ring, ring)
	odd[0] = number(1, 1)
	odd[0].Else = odd
	return [][]ir.Node{deep, shared, ring, odd, slices.Repeat(list(number(1, 1)), 300_000)}
}

// TestNothingPanics (R1): arguments of all sorts and sizes, none of which are shaped or formed.
func TestNothingPanics(t *testing.T) {
	for _, body := range greatBodies() {
		ask(integer(1), nil, function(0, body...)).refused(t)
		ask(integer(1), nil, function(0), function(0, try(1, nil, body))).refused(t)
	}
	for _, odd := range greatTypes() {
		for _, change := range []func(f *ir.Fn){
			func(f *ir.Fn) { f.Param = odd },
			func(f *ir.Fn) { f.Result = odd },
			func(f *ir.Fn) { f.Slots[3] = odd },
			func(f *ir.Fn) { f.Caps = []api.Type{odd} },
			func(f *ir.Fn) { f.Param, f.Slots[0] = odd, odd },
			func(f *ir.Fn) { f.Body = list(ir.Node{Op: 12, Dst: 1, T: odd}) },
		} {
			f := function(0)
			change(&f)
			ask(integer(1), nil, f).refused(t)
			ask(integer(1), nil, function(0), f).refused(t)
		}
		// Where no T is needed it may be anything.
		ask(integer(1), nil, function(1, ir.Node{Op: 3, Dst: 1, T: odd})).tells(t, "returned 1,,, 1")
	}
	extremes := []int{math.MinInt, math.MinInt32, -2, -1, 0, 1, 18, 19, 250, math.MaxInt32, math.MaxInt}
	for _, a := range extremes {
		for _, b := range extremes {
			f := function(0, ir.Node{Op: a, Dst: b, A: b, B: a, N: int64(b), Args: []int{a, b}, Env: 0})
			ireval.Run(chain(), []ir.Fn{f}, integer(int64(a)), nil, 100)
			for op := range 19 {
				f.Body = list(ir.Node{Op: op, Dst: a, A: b, B: a, N: int64(b), Args: []int{b}, T: typed(a), Body: list(ir.Node{Op: a})})
				f.Out = b
				ireval.Run(chain(), []ir.Fn{f}, api.Value{Kind: b, N: int64(a)}, nil, 100)
				ireval.Run(chain(), []ir.Fn{{Heap: a, Exc: b}, f}, integer(1), nil, 100)
			}
		}
	}
	// Shaped, but of far more Args than Caps.
	ask(integer(1), nil, function(1, closure(1, 0, make([]int, 10_000_000)...))).tells(t, "stuck,,, 1")
	ireval.Run(api.Lattice{}, nil, api.Value{}, nil, 0)
	ireval.Run(chain(), make([]ir.Fn, 1_000_000), api.Value{}, make([]api.Cell, 1_000_000), math.MinInt)
	line := integer(1)
	for range 1_000_000 {
		line = fun(1, line)
	}
	ask(line, nil, function(0)).refused(t)
	ask(integer(1), cells(line), function(0)).refused(t)
}

// TestGreatTypes (P12.1, R1, R5): the Types of the cells at the beginning may be of any size; they are told as they were, in memory of their own.
func TestGreatTypes(t *testing.T) {
	var heap []api.Cell
	for _, odd := range greatTypes() {
		heap = append(heap, api.Cell{Type: odd, Value: integer(3)})
	}
	o := ask(ref(1), heap, function(1, truth(1, 1), set(0, 1), cell(1, 1, 0))).run()
	if o.Kind != api.Returned || len(o.Heap) != len(heap)+1 {
		t.Fatal(o.Kind, len(o.Heap))
	}
	for i, c := range heap {
		got := o.Heap[i].Type
		if !types.Same(got, c.Type) || &got.Parts[0] == &c.Type.Parts[0] || len(got.Parts[0].Parts) > 0 && &got.Parts[0].Parts[0] == &c.Type.Parts[0].Parts[0] {
			t.Error("the Type of the cell", i)
		}
	}
}

// TestFullFunctions (R1): as many functions as may be, of as many nodes, nested as deep as may be, are soon run.
func TestFullFunctions(t *testing.T) {
	body := slices.Repeat(list(couple(2, 0, 1)), 4096-64)
	for range 63 {
		body = list(try(1, body, nil))
	}
	full := function(2, append(list(number(1, 1)), body...)...)
	ask(integer(4), nil, slices.Repeat([]ir.Fn{full}, api.MaxFuncs)...).tells(t, "returned p[4 1],,, 4096")
	wide := capturing(0, 0)
	wide.Slots = slices.Repeat(wide.Slots[:1], api.MaxSlots)
	wide.Caps = wide.Slots[:api.MaxCaps]
	wide.Out = 249
	for slot := range 249 {
		wide.Body = append(wide.Body, couple(slot+1, slot, 0))
	}
	wide.Body = append(wide.Body, self(249))
	args := make([]int, api.MaxCaps)
	o := ask(integer(4), nil, function(2, closure(1, 1, args...), call(2, 1, 0)), wide).run()
	if o.Kind != api.Returned || len(o.Value.Parts) != api.MaxCaps || o.Steps != 252 {
		t.Error(told(o))
	}
}

// TestGreatAnswer (R1, R5): cells of great values that share memory in the run are told in memory of their own.
func TestGreatAnswer(t *testing.T) {
	o := ask(sized(400), nil, function(none, cell(1, 0, 0), cell(1, 0, 0), self(2), call(3, 2, 0))).with(20000).run()
	if o.Kind != api.OutOfFuel || len(o.Heap) != 10000 {
		t.Fatal(o.Kind, len(o.Heap))
	}
	met := map[*api.Value]int{}
	for _, c := range o.Heap {
		if met[&c.Value.Parts[0]]++; met[&c.Value.Parts[0]] > 1 || count(c.Value) != 400 {
			t.Fatal("memory is shared")
		}
	}
}

// room is a list with spare room in which something stands.
func room[T any](list []T, more T) []T {
	return append(append(make([]T, 0, len(list)+2), list...), more, more)[:len(list)]
}

// roomyAll is the members of a list, each by how, in a list with spare room.
func roomyAll[T any](list []T, more T, how func(T) T) []T {
	var made []T
	for _, v := range list {
		made = append(made, how(v))
	}
	return room(made, more)
}

func roomyType(t api.Type) api.Type {
	t.Parts = roomyAll(t.Parts, api.Type{Kind: api.Bool}, roomyType)
	return t
}

func roomyValue(v api.Value) api.Value {
	v.Parts = roomyAll(v.Parts, boolean(1), roomyValue)
	return v
}

func roomyNode(n ir.Node) ir.Node {
	n.T, n.Args = roomyType(n.T), room(n.Args, 1)
	n.Body, n.Else = roomyAll(n.Body, number(0, 77), roomyNode), roomyAll(n.Else, number(0, 77), roomyNode)
	return n
}

func roomyFn(f ir.Fn) ir.Fn {
	f.Param, f.Result = roomyType(f.Param), roomyType(f.Result)
	f.Caps, f.Slots = roomyAll(f.Caps, typed(api.Bool), roomyType), roomyAll(f.Slots, typed(api.Bool), roomyType)
	f.Body = roomyAll(f.Body, number(0, 77), roomyNode)
	return f
}

// roomy is q in lists that all have spare room with something in it.
func roomy(q question) question {
	q.l.Names = room(q.l.Names, "spare")
	q.l.Order = roomyAll(q.l.Order, []bool{true}, func(row []bool) []bool { return room(row, true) })
	q.fns = roomyAll(q.fns, function(0), roomyFn)
	q.arg = roomyValue(q.arg)
	q.heap = roomyAll(q.heap, api.Cell{Value: integer(77)}, func(c api.Cell) api.Cell { return api.Cell{Type: roomyType(c.Type), Value: roomyValue(c.Value)} })
	return q
}

// held is what a question hands in.
func (q question) held() []any {
	return []any{q.l, q.fns, q.arg, q.heap}
}

func wholes(all ...any) []any {
	var made []any
	for _, v := range all {
		made = append(made, whole(reflect.ValueOf(v), true).Interface())
	}
	return made
}

// TestArgumentsAreLeft (R5): what is handed in is left as it is, its spare room too, and no answer hangs on that.
func TestArgumentsAreLeft(t *testing.T) {
	draw := rand.New(rand.NewSource(5))
	for n := range 1600 {
		plainly := drawnQuestion(draw, 8<<(n%7))
		q := roomy(plainly)
		before := wholes(q.held()...)
		o := q.run()
		if !reflect.DeepEqual(before, wholes(q.held()...)) {
			t.Fatalf("%+v was changed", plainly)
		}
		if !alike(o, plainly.run()) {
			t.Fatalf("%+v: an answer hangs on spare room", plainly)
		}
	}
}

// places adds where the members of all lists of v stand, spare room too, to those that are known, and tells whether they were unknown.
func places(v reflect.Value, known map[uintptr]reflect.Type) bool {
	switch v.Kind() {
	case reflect.Struct:
		for i := range v.NumField() {
			if !places(v.Field(i), known) {
				return false
			}
		}
	case reflect.Slice:
		v = v.Slice(0, v.Cap())
		for i := range v.Len() {
			at := v.Index(i).UnsafeAddr()
			if known[at] != nil {
				return false
			}
			known[at] = v.Type()
			if !places(v.Index(i), known) {
				return false
			}
		}
	}
	return true
}

// meets tells whether a member of a list of v stands where something is known to stand.
func meets(v reflect.Value, known map[uintptr]reflect.Type) bool {
	switch v.Kind() {
	case reflect.Struct:
		for i := range v.NumField() {
			if meets(v.Field(i), known) {
				return true
			}
		}
	case reflect.Slice:
		v = v.Slice(0, v.Cap())
		for i := range v.Len() {
			if known[v.Index(i).UnsafeAddr()] != nil || meets(v.Index(i), known) {
				return true
			}
		}
	}
	return false
}

// spoil sets all that stands in v's lists to zero.
func spoil(v reflect.Value) {
	switch v.Kind() {
	case reflect.Struct:
		for i := range v.NumField() {
			spoil(v.Field(i))
		}
	case reflect.Slice:
		v = v.Slice(0, v.Cap())
		for i := range v.Len() {
			spoil(v.Index(i))
			v.Index(i).SetZero()
		}
	}
}

// TestNewMemory (R5): an answer shares no memory with what was handed in, within itself, or with a later answer, and one that is changed changes nothing.
func TestNewMemory(t *testing.T) {
	draw := rand.New(rand.NewSource(55))
	answered := 0
	for n := range 3000 {
		q := roomy(drawnQuestion(draw, 8<<(n%7)))
		before := wholes(q.held()...)
		first, second := q.run(), q.run()
		if len(first.Value.Parts) > 0 && len(first.Heap) > 0 {
			answered++
		}
		known := map[uintptr]reflect.Type{}
		if !places(reflect.ValueOf(first), known) || !places(reflect.ValueOf(second), known) {
			t.Fatalf("%+v: memory is shared", q)
		}
		for _, v := range q.held() {
			if meets(reflect.ValueOf(v), known) {
				t.Fatalf("%+v: memory is kept", q)
			}
		}
		kept := wholes(second)
		spoil(reflect.ValueOf(first))
		if !reflect.DeepEqual(kept, wholes(second)) || !reflect.DeepEqual(before, wholes(q.held()...)) || !alike(second, q.run()) {
			t.Fatalf("%+v: something was changed", q)
		}
	}
	if answered < 120 {
		t.Error(answered)
	}
}

// TestSharedAnswer (R5): one value, and one type, in several places of an answer stands in memory of its own in each.
func TestSharedAnswer(t *testing.T) {
	both := typed(api.Pair, typed(api.Ref, typed(api.Int)), typed(api.Bool))
	made := ir.Node{Op: 12, Dst: 3, A: 2, T: both}
	f := capturing(0, 5, couple(1, 0, 0), closure(2, 1, 0, 1), made, made, get(4, 3), couple(5, 4, 2))
	arg := pair(pair(integer(1), integer(2)), fun(3, ref(0), ref(1)))
	arg.Parts[1].Parts[0] = arg.Parts[0]
	heap := []api.Cell{{Type: both, Value: arg}, {Type: both, Value: arg}}
	q := ask(arg, heap, f, capturing(2, 0))
	o := q.run()
	known := map[uintptr]reflect.Type{}
	if o.Kind != api.Returned || len(o.Heap) != 4 || !places(reflect.ValueOf(o), known) {
		t.Error(told(o))
	}
	for _, v := range q.held() {
		if meets(reflect.ValueOf(v), known) {
			t.Error("memory is kept")
		}
	}
}

// TestNoElements (R5): a list of no elements may be nil or empty.
func TestNoElements(t *testing.T) {
	f := function(0, ir.Node{Op: 9, Dst: 1, Args: []int{}}, ir.Node{Op: 17, Dst: 2, Body: []ir.Node{}, Else: []ir.Node{}, T: api.Type{Parts: []api.Type{}}})
	f.Caps = []api.Type{}
	ask(api.Value{Kind: api.Fun, N: 3, Parts: []api.Value{}}, []api.Cell{}, f).tells(t, "returned f3[],,, 2")
	f = function(1, truth(2, 1), ir.Node{Op: 16, A: 2, Body: list(move(1, 2)), Else: []ir.Node{}})
	ask(api.Value{Kind: api.Int, Parts: []api.Value{}}, []api.Cell{}, f).tells(t, "returned true,,, 3")
}

// TestAgain (R7): what is answered hangs on nothing but what is given.
func TestAgain(t *testing.T) {
	draw := rand.New(rand.NewSource(7))
	var asked []question
	var answers []api.Outcome
	for range 300 {
		q := drawnQuestion(draw, 256)
		asked, answers = append(asked, q), append(answers, q.run())
	}
	for i, q := range slices.Backward(asked) {
		if !alike(q.run(), answers[i]) {
			t.Fatalf("%+v: another answer", q)
		}
	}
}
