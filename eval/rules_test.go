package eval_test

import (
	"math"
	"math/rand"
	"reflect"
	"testing"

	"palisade/api"
	"palisade/check"
	"palisade/eval"
	"palisade/lattice"
	"palisade/types"
	"palisade/value"
)

// great are expressions of very many nodes: deep, wide, such as share memory, and rings.
func great() []api.Expr {
	deep, shared := number(1), function("f", "n", number(1))
	for range 1_000_000 {
		deep = function("f", "n", deep)
	}
	for range 1000 {
		shared = expr(api.EPair, shared, shared)
	}
	wide := make([]api.Expr, 300_000)
	for i := range wide {
		wide[i] = function("f", "n", number(1))
	}
	ring := make([]api.Expr, 1)
	ring[0] = api.Expr{Kind: api.ENot, Parts: ring}
	fun := make([]api.Expr, 1)
	fun[0] = function("f", "n", number(1))
	fun[0].Parts = fun
	return []api.Expr{deep, shared, expr(api.ESeq, wide...), ring[0], fun[0], expr(api.ESeq, number(1), fun[0]), expr(api.EPair, ring[0], function("f", "n", ring[0]))}
}

// greatTypes are of very many nodes, one of them a ring.
func greatTypes() []api.Type {
	ring := make([]api.Type, 1000)
	for i := range ring {
		ring[i] = api.Type{Kind: api.Pair, Label: i, Parts: ring}
	}
	line, shared := api.Type{Kind: api.Int}, api.Type{Kind: api.Bool}
	for i := range 100_000 {
		line = api.Type{Kind: api.Ref, Label: i, Parts: []api.Type{line}}
	}
	for range 1000 {
		shared = api.Type{Kind: api.Pair, Parts: []api.Type{shared, shared}}
	}
	return []api.Type{ring[7], line, shared, {Kind: -5, Label: -6, Heap: 7, Exc: 8, Parts: make([]api.Type, 5000)}}
}

// TestNothingPanics (R1): arguments of all sorts and sizes.
func TestNothingPanics(t *testing.T) {
	numbers := []int{1_000_000, math.MaxInt, 300_000, 0, math.MaxInt, math.MaxInt, 1}
	for i, e := range great() {
		refuses(t, around(e), integer(1), nil, 100)
		if got := eval.Numbers(e); got != numbers[i] {
			t.Errorf("%d functions; want %d", got, numbers[i])
		}
		p := program(t, "1")
		p.Body = e
		refuses(t, p, integer(1), nil, 100)
	}
	for _, odd := range greatTypes() {
		p := program(t, "1")
		p.Param = odd
		refuses(t, p, integer(1), nil, 100)
		for _, e := range []api.Expr{{Kind: api.ENew, Type: odd, Parts: []api.Expr{number(1)}}, {Kind: api.EFun, Text: "f", Arg: "n", Type: odd, Give: odd, Parts: []api.Expr{number(1)}}} {
			refuses(t, around(e), integer(1), nil, 100)
			if got := eval.Numbers(e); got > 1 || (got == 1) != (e.Kind == api.EFun) {
				t.Error(got)
			}
		}
	}
	for _, e := range unformedBodies() {
		eval.Numbers(e)
	}
	for _, l := range []api.Lattice{{Names: []string{"a"}}, {Order: [][]bool{{true}}}, {Names: []string{"a", "b"}, Order: [][]bool{{true, true}, nil}}, {Names: make([]string, 100), Order: make([][]bool, 100)}} {
		p := program(t, "1")
		p.Lattice = l
		refuses(t, p, integer(1), nil, 100)
	}
	eval.Run(api.Program{}, api.Value{}, nil, 0)
	eval.Run(api.Program{}, api.Value{}, make([]api.Cell, 2_000_000), math.MinInt)
}

// TestGreatTypes (P9.1, R1, R5): the Types of the cells at the beginning may be of any size; they are told as they were, in memory of their own.
func TestGreatTypes(t *testing.T) {
	var heap []api.Cell
	for _, odd := range greatTypes() {
		heap = append(heap, api.Cell{Type: odd, Value: integer(3)})
	}
	o := eval.Run(program(t, "x := 1; new 2"), ref(1), heap, 100)
	if o.Kind != api.Returned || len(o.Heap) != len(heap)+1 {
		t.Fatal(o.Kind, len(o.Heap))
	}
	for i, cell := range heap {
		got := o.Heap[i].Type
		if !types.Same(got, cell.Type) || &got.Parts[0] == &cell.Type.Parts[0] || len(got.Parts[0].Parts) > 0 && &got.Parts[0].Parts[0] == &cell.Type.Parts[0].Parts[0] {
			t.Error("the Type of the cell", i)
		}
	}
}

// TestGreatAnswer (R1, R5): cells of great values that share memory in the run are told in memory of their own.
func TestGreatAnswer(t *testing.T) {
	o := eval.Run(program(t, "let r = new x in (fun f(n) (new n; f(n)))(x)"), sized(400), nil, api.MaxSteps)
	if o.Kind != api.OutOfFuel || len(o.Heap) < 13000 {
		t.Fatal(o.Kind, len(o.Heap))
	}
	met := map[*api.Value]int{}
	for _, cell := range o.Heap {
		if met[&cell.Value.Parts[0]]++; met[&cell.Value.Parts[0]] > 1 || count(cell.Value) != 400 {
			t.Fatal("memory is shared")
		}
	}
}

// room is a list with spare room in which something stands.
func room[T any](list []T, more T) []T {
	return append(append(make([]T, 0, len(list)+2), list...), more, more)[:len(list)]
}

func roomyType(t api.Type) api.Type {
	var parts []api.Type
	for _, part := range t.Parts {
		parts = append(parts, roomyType(part))
	}
	t.Parts = room(parts, api.Type{Kind: api.Bool})
	return t
}

func roomyValue(v api.Value) api.Value {
	var parts []api.Value
	for _, part := range v.Parts {
		parts = append(parts, roomyValue(part))
	}
	v.Parts = room(parts, boolean(1))
	return v
}

func roomyExpr(e api.Expr) api.Expr {
	e.Type, e.Give = roomyType(e.Type), roomyType(e.Give)
	var parts []api.Expr
	for _, part := range e.Parts {
		parts = append(parts, roomyExpr(part))
	}
	e.Parts = room(parts, name("spare"))
	return e
}

// roomy is q in lists that all have spare room with something in it.
func roomy(q question) question {
	l := q.p.Lattice
	var rows [][]bool
	for _, row := range l.Order {
		rows = append(rows, room(row, true))
	}
	q.p.Lattice = api.Lattice{Names: room(l.Names, "spare"), Order: room(rows, []bool{true})}
	q.p.Param, q.p.Result, q.p.Body = roomyType(q.p.Param), roomyType(q.p.Result), roomyExpr(q.p.Body)
	q.arg = roomyValue(q.arg)
	var heap []api.Cell
	for _, cell := range q.heap {
		heap = append(heap, api.Cell{Type: roomyType(cell.Type), Value: roomyValue(cell.Value)})
	}
	q.heap = room(heap, api.Cell{Value: integer(77)})
	return q
}

// held is what a question hands in.
func (q question) held() []any {
	return []any{q.p, q.arg, q.heap}
}

// whole is v in memory of its own; with all lists as long as their room, if that is asked for, else with nil for those of no elements.
func whole(v reflect.Value, room bool) reflect.Value {
	made := reflect.New(v.Type()).Elem()
	switch v.Kind() {
	case reflect.Struct:
		for i := range v.NumField() {
			made.Field(i).Set(whole(v.Field(i), room))
		}
	case reflect.Slice:
		if room {
			v = v.Slice(0, v.Cap())
		} else if v.Len() == 0 {
			break
		}
		made.Set(reflect.MakeSlice(v.Type(), v.Len(), v.Len()))
		for i := range v.Len() {
			made.Index(i).Set(whole(v.Index(i), room))
		}
	default:
		made.Set(v)
	}
	return made
}

func wholes(all ...any) []any {
	var made []any
	for _, v := range all {
		made = append(made, whole(reflect.ValueOf(v), true).Interface())
	}
	return made
}

// TestArgumentsAreLeft (R5): what is handed in is left as it is, its spare room too, and no answer hangs on that.
func TestArgumentsAreLeft(t *testing.T) {
	draw := rand.New(rand.NewSource(5))
	for n := range 1600 {
		plainly := drawnQuestion(draw, 1+n%8)
		q := roomy(plainly)
		before := wholes(q.held()...)
		o, functions := q.run(), eval.Numbers(q.p.Body)
		if !reflect.DeepEqual(before, wholes(q.held()...)) {
			t.Fatalf("%+v was changed", plainly)
		}
		if !alike(o, plainly.run()) || functions != eval.Numbers(plainly.p.Body) {
			t.Fatalf("%+v: an answer hangs on spare room", plainly)
		}
	}
}

// places adds where the members of all lists of v stand, spare room too, to those that are known, and tells whether they were unknown.
func places(v reflect.Value, known map[uintptr]reflect.Type) bool {
	switch v.Kind() {
	case reflect.Struct:
		for i := range v.NumField() {
			if !places(v.Field(i), known) {
				return false
			}
		}
	case reflect.Slice:
		v = v.Slice(0, v.Cap())
		for i := range v.Len() {
			at := v.Index(i).UnsafeAddr()
			if known[at] != nil {
				return false
			}
			known[at] = v.Type()
			if !places(v.Index(i), known) {
				return false
			}
		}
	}
	return true
}

// meets tells whether a member of a list of v stands where something is known to stand.
func meets(v reflect.Value, known map[uintptr]reflect.Type) bool {
	switch v.Kind() {
	case reflect.Struct:
		for i := range v.NumField() {
			if meets(v.Field(i), known) {
				return true
			}
		}
	case reflect.Slice:
		v = v.Slice(0, v.Cap())
		for i := range v.Len() {
			if known[v.Index(i).UnsafeAddr()] != nil || meets(v.Index(i), known) {
				return true
			}
		}
	}
	return false
}

// spoil sets all that stands in v's lists to zero.
func spoil(v reflect.Value) {
	switch v.Kind() {
	case reflect.Struct:
		for i := range v.NumField() {
			spoil(v.Field(i))
		}
	case reflect.Slice:
		v = v.Slice(0, v.Cap())
		for i := range v.Len() {
			spoil(v.Index(i))
			v.Index(i).SetZero()
		}
	}
}

// TestNewMemory (R5): an answer shares no memory with what was handed in, within itself, or with a later answer, and one that is changed changes nothing.
func TestNewMemory(t *testing.T) {
	draw := rand.New(rand.NewSource(55))
	answered := 0
	for n := range 1600 {
		q := roomy(drawnQuestion(draw, 1+n%8))
		before := wholes(q.held()...)
		first, second := q.run(), q.run()
		if len(first.Value.Parts) > 0 && len(first.Heap) > 0 {
			answered++
		}
		known := map[uintptr]reflect.Type{}
		if !places(reflect.ValueOf(first), known) || !places(reflect.ValueOf(second), known) {
			t.Fatalf("%+v: memory is shared", q)
		}
		for _, v := range q.held() {
			if meets(reflect.ValueOf(v), known) {
				t.Fatalf("%+v: memory is kept", q)
			}
		}
		kept := wholes(second)
		spoil(reflect.ValueOf(first))
		if !reflect.DeepEqual(kept, wholes(second)) || !reflect.DeepEqual(before, wholes(q.held()...)) || !alike(second, q.run()) {
			t.Fatalf("%+v: something was changed", q)
		}
	}
	if answered < 120 {
		t.Error(answered)
	}
}

// TestSharedAnswer (R5): one value in several places of an answer stands in memory of its own in each.
func TestSharedAnswer(t *testing.T) {
	p := program(t, "let y = (x, fun f(n) x) in let r = new[(int@low, int@low)@low] y in let s = new[(int@low, int@low)@low] (y, y) in (y, (! s, fst x))")
	arg := pair(pair(integer(1), integer(2)), fun(3, ref(0), ref(1)))
	arg.Parts[1].Parts[0] = arg.Parts[0]
	heap := cells(arg, arg)
	o := eval.Run(p, arg, heap, 100)
	known := map[uintptr]reflect.Type{}
	if o.Kind != api.Returned || len(o.Heap) != 4 || !places(reflect.ValueOf(o), known) || meets(reflect.ValueOf(arg), known) || meets(reflect.ValueOf(heap), known) || meets(reflect.ValueOf(p), known) {
		t.Error(told(o))
	}
}

// TestAccepted: a program that the rules of types accept is never Stuck, given what fits, and what it raises is an Int.
func TestAccepted(t *testing.T) {
	draw := rand.New(rand.NewSource(3))
	ends := map[int]int{}
	for n := range 30000 {
		d := &drawer{draw, 1 << 20}
		param := d.shape(1)
		if n%3 == 0 {
			param = pairShape(d.shape(1), d.shape(1))
		}
		p := around(d.expr([]scoped{{"x", param}}, d.shape(3), 1+n%8))
		p.Param = param
		top := lattice.Top(p.Lattice)
		p.Exc = top
		t1, _, _, err := check.Judge(p.Lattice, []check.Bind{{Name: "x", Type: param}}, 0, 0, p.Body)
		if err != api.OK {
			continue
		}
		p.Result = t1
		o := eval.Run(p, d.value(param), nil, 1000)
		ends[o.Kind]++
		if o.Kind == api.Stuck || o.Kind == api.Raised && o.Value.Kind != api.Int || o.Kind == api.Returned && (o.Value.Kind != t1.Kind || !value.Formed(o.Value)) {
			t.Fatalf("%+v: %s", p, told(o))
		}
	}
	if ends[api.Returned] < 2500 || ends[api.Raised] < 150 {
		t.Error("ends:", ends)
	}
}
