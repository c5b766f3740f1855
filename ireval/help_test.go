package ireval_test

import (
	"reflect"
	"strconv"
	"strings"
	"testing"

	"palisade/api"
	"palisade/ir"
	"palisade/ireval"
)

const none = api.None

// chain is low (0) below high (1).
func chain() api.Lattice {
	return api.Lattice{Names: []string{"low", "high"}, Order: [][]bool{{true, true}, {false, true}}}
}

func integer(n int64) api.Value {
	return api.Value{Kind: api.Int, N: n}
}

func boolean(n int64) api.Value {
	return api.Value{Kind: api.Bool, N: n}
}

func pair(a, b api.Value) api.Value {
	return api.Value{Kind: api.Pair, Parts: []api.Value{a, b}}
}

func fun(n int64, parts ...api.Value) api.Value {
	return api.Value{Kind: api.Fun, N: n, Parts: parts}
}

func ref(n int64) api.Value {
	return api.Value{Kind: api.Ref, N: n}
}

// sized is a formed value of so many nodes, at least one: a Fun of number 1.
func sized(nodes int) api.Value {
	v := fun(1)
	for range nodes - 1 {
		v.Parts = append(v.Parts, integer(3))
	}
	return v
}

// cells are those with these values, of types that tell them apart.
func cells(values ...api.Value) []api.Cell {
	var made []api.Cell
	for i, v := range values {
		made = append(made, api.Cell{Type: api.Type{Kind: api.Int, Label: i % 2}, Value: v})
	}
	return made
}

// What follows are nodes of each Op, in the order of the Ops. In the fields that an Op doesn't need something stands that would be wrong in those of others.

func number(dst int, n int64) ir.Node {
	return ir.Node{Op: 1, Dst: dst, N: n, A: -3, B: 999, Args: []int{-1}}
}

func truth(dst int, n int64) ir.Node {
	return ir.Node{Op: 2, Dst: dst, N: n, A: 999, B: -3}
}

func move(dst, a int) ir.Node {
	return ir.Node{Op: 3, Dst: dst, A: a, B: -3, N: -3}
}

func reckon(dst, op, a, b int) ir.Node {
	return ir.Node{Op: 4, Dst: dst, N: int64(op), A: a, B: b, Args: []int{999}}
}

func not(dst, a int) ir.Node {
	return ir.Node{Op: 5, Dst: dst, A: a, B: 999}
}

func couple(dst, a, b int) ir.Node {
	return ir.Node{Op: 6, Dst: dst, A: a, B: b, N: 999}
}

func first(dst, a int) ir.Node {
	return ir.Node{Op: 7, Dst: dst, A: a, B: -3}
}

func second(dst, a int) ir.Node {
	return ir.Node{Op: 8, Dst: dst, A: a, B: -3}
}

func closure(dst, k int, args ...int) ir.Node {
	return ir.Node{Op: 9, Dst: dst, N: int64(k), Args: args, A: -3, B: -3}
}

func self(dst int) ir.Node {
	return ir.Node{Op: 10, Dst: dst, A: -3, B: 999, N: 999}
}

func call(dst, a, b int) ir.Node {
	return ir.Node{Op: 11, Dst: dst, A: a, B: b, N: 999}
}

// cell makes one of an Int of that label.
func cell(dst, a, label int) ir.Node {
	return ir.Node{Op: 12, Dst: dst, A: a, T: api.Type{Kind: api.Int, Label: label}, B: -3, N: 999}
}

func get(dst, a int) ir.Node {
	return ir.Node{Op: 13, Dst: dst, A: a, B: -3}
}

func set(a, b int) ir.Node {
	return ir.Node{Op: 14, A: a, B: b, Dst: -3}
}

func out(label, a int) ir.Node {
	return ir.Node{Op: 15, N: int64(label), A: a, B: -3, Dst: 999}
}

func choice(a int, body, other []ir.Node) ir.Node {
	return ir.Node{Op: 16, A: a, Body: body, Else: other, Dst: -3, B: 999}
}

func try(dst int, body, other []ir.Node) ir.Node {
	return ir.Node{Op: 17, Dst: dst, Body: body, Else: other, A: -3, B: 999}
}

func raise(a int) ir.Node {
	return ir.Node{Op: 18, A: a, Dst: -3, B: -3}
}

func list(nodes ...ir.Node) []ir.Node {
	return nodes
}

// function is one that gives what a slot has. It has ten slots, of types that mean nothing to a run.
func function(gives int, body ...ir.Node) ir.Fn {
	return capturing(0, gives, body...)
}

// capturing is a function of so many Caps.
func capturing(caps, gives int, body ...ir.Node) ir.Fn {
	low := api.Type{Kind: api.Int}
	f := ir.Fn{Param: low, Result: low, Exc: none, Slots: make([]api.Type, 10), Body: body, Out: gives}
	for i := range f.Slots {
		f.Slots[i] = low
	}
	f.Caps = append(f.Caps, f.Slots[:caps]...)
	return f
}

// text tells a value.
func text(v api.Value) string {
	n := strconv.FormatInt(v.N, 10)
	var parts []string
	for _, part := range v.Parts {
		parts = append(parts, text(part))
	}
	list := "[" + strings.Join(parts, " ") + "]"
	return [...]string{"none", n, [...]string{"false", "true"}[v.N&1], "p" + list, "f" + n + list, "r" + n}[v.Kind]
}

var hows = [...]string{"", "returned", "raised", "out of fuel", "exhausted", "stuck"}

// told is an outcome in a line: how it ended and with what, the events, the cells, the steps. A high label and a high Type are told by a mark.
func told(o api.Outcome) string {
	line := hows[o.Kind]
	if o.Value.Kind != 0 {
		line += " " + text(o.Value)
	}
	line += ","
	for _, event := range o.Trace {
		line += " " + strings.Repeat("^", event.Label) + strconv.FormatInt(event.N, 10)
	}
	line += ","
	for _, cell := range o.Heap {
		line += " " + strings.Repeat("^", cell.Type.Label) + text(cell.Value)
	}
	return line + ", " + strconv.Itoa(o.Steps)
}

// question is what Run is asked.
type question struct {
	l    api.Lattice
	fns  []ir.Fn
	arg  api.Value
	heap []api.Cell
	fuel int
}

func (q question) run() api.Outcome {
	return ireval.Run(q.l, q.fns, q.arg, q.heap, q.fuel)
}

// ask is a question of these functions, with enough fuel.
func ask(arg api.Value, heap []api.Cell, fns ...ir.Fn) question {
	return question{chain(), fns, arg, heap, api.MaxSteps}
}

// with is q with that fuel.
func (q question) with(fuel int) question {
	q.fuel = fuel
	return q
}

// tells holds an outcome against a line; the functions must be shaped.
func (q question) tells(t *testing.T, line string) {
	t.Helper()
	if !ir.Shaped(q.l, q.fns) {
		t.Errorf("not shaped: %+v", q.fns)
	}
	if got := told(q.run()); got != line {
		t.Errorf("given %s, fuel %d:\n%s\nwant\n%s", text(q.arg), q.fuel, got, line)
	}
}

// refused holds an outcome to be Stuck with nothing else.
func (q question) refused(t *testing.T) {
	t.Helper()
	o := q.run()
	if o.Kind != api.Stuck || !reflect.DeepEqual(o.Value, api.Value{}) || len(o.Trace) > 0 || len(o.Heap) > 0 || o.Steps != 0 {
		t.Errorf("%d, %d events, %d cells, %d steps", o.Kind, len(o.Trace), len(o.Heap), o.Steps)
	}
}

// plain is v with nil for each list of no elements.
func plain(v any) any {
	return whole(reflect.ValueOf(v), false).Interface()
}

func alike(a, b any) bool {
	return reflect.DeepEqual(plain(a), plain(b))
}

// whole is v in memory of its own; with all lists as long as their room, if that is asked for, else with nil for those of no elements.
func whole(v reflect.Value, room bool) reflect.Value {
	made := reflect.New(v.Type()).Elem()
	switch v.Kind() {
	case reflect.Struct:
		for i := range v.NumField() {
			made.Field(i).Set(whole(v.Field(i), room))
		}
	case reflect.Slice:
		if room {
			v = v.Slice(0, v.Cap())
		} else if v.Len() == 0 {
			break
		}
		made.Set(reflect.MakeSlice(v.Type(), v.Len(), v.Len()))
		for i := range v.Len() {
			made.Index(i).Set(whole(v.Index(i), room))
		}
	default:
		made.Set(v)
	}
	return made
}
