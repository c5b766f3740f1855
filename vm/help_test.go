package vm_test

import (
	"reflect"
	"slices"
	"strconv"
	"strings"
	"testing"

	"palisade/api"
	"palisade/class"
	"palisade/vm"
)

const none = api.None

// chain is low (0) below high (1).
func chain() api.Lattice {
	return api.Lattice{Names: []string{"low", "high"}, Order: [][]bool{{true, true}, {false, true}}}
}

func integer(n int64) api.Value {
	return api.Value{Kind: api.Int, N: n}
}

func boolean(n int64) api.Value {
	return api.Value{Kind: api.Bool, N: n}
}

func pair(a, b api.Value) api.Value {
	return api.Value{Kind: api.Pair, Parts: []api.Value{a, b}}
}

func fun(n int64, parts ...api.Value) api.Value {
	return api.Value{Kind: api.Fun, N: n, Parts: parts}
}

func ref(n int64) api.Value {
	return api.Value{Kind: api.Ref, N: n}
}

// values is one of each Kind.
func values() []api.Value {
	return []api.Value{integer(-5), boolean(1), pair(integer(1), boolean(0)), fun(7, ref(3), integer(2)), ref(0)}
}

// sized is a formed value of so many nodes, at least one: a Fun of number 1.
func sized(nodes int) api.Value {
	v := fun(1)
	for range nodes - 1 {
		v.Parts = append(v.Parts, integer(3))
	}
	return v
}

// cells are those with these values, of types that tell them apart.
func cells(values ...api.Value) []api.Cell {
	var made []api.Cell
	for i, v := range values {
		made = append(made, api.Cell{Type: typed(api.Int, i%2), Value: v})
	}
	return made
}

func typed(kind, label int, parts ...api.Type) api.Type {
	return api.Type{Kind: kind, Label: label, Parts: parts}
}

// op is an instruction of that Op and that number.
func op(op int, a ...int64) api.Ins {
	i := api.Ins{Op: op}
	if len(a) > 0 {
		i.A = a[0]
	}
	return i
}

// cell is an OpNew of an Int of that label.
func cell(label int) api.Ins {
	return api.Ins{Op: api.OpNew, T: typed(api.Int, label)}
}

// The instructions that have no number.
var (
	pop     = op(api.OpPop)
	add     = op(api.OpAdd)
	div     = op(api.OpDiv)
	not     = op(api.OpNot)
	couple  = op(api.OpPair)
	first   = op(api.OpFirst)
	second  = op(api.OpSecond)
	self    = op(api.OpSelf)
	call    = op(api.OpCall)
	get     = op(api.OpGet)
	set     = op(api.OpSet)
	throw   = op(api.OpRaise)
	give    = op(api.OpReturn)
	given   = op(api.OpLoad, 0)
	byZero  = []api.Ins{op(api.OpInt, 1), op(api.OpInt, 0), div}
	restOf0 = []api.Ins{op(api.OpInt, 1), op(api.OpInt, 0), op(api.OpMod)}
)

func number(n int64) api.Ins { return op(api.OpInt, n) }
func truth(n int64) api.Ins  { return op(api.OpBool, n) }
func load(s int64) api.Ins   { return op(api.OpLoad, s) }
func store(s int64) api.Ins  { return op(api.OpStore, s) }
func closes(k int64) api.Ins { return op(api.OpClose, k) }
func out(l int64) api.Ins    { return op(api.OpOut, l) }
func jump(to int64) api.Ins  { return op(api.OpJump, to) }
func unless(t int64) api.Ins { return op(api.OpUnless, t) }

// function is one of that code, with ten slots and without a certificate: a run needs none.
func function(code ...api.Ins) api.Func {
	return capturing(0, code...)
}

// capturing is a function of so many Caps.
func capturing(caps int, code ...api.Ins) api.Func {
	low := typed(api.Int, 0)
	return api.Func{Param: low, Result: low, Exc: none, Slots: 10, Caps: slices.Repeat([]api.Type{low}, caps), Code: code}
}

// handled is f with one handler more, behind those that there are.
func handled(f api.Func, from, to, at int) api.Func {
	f.Handlers = append(slices.Clone(f.Handlers), api.Handler{From: from, To: to, At: at})
	return f
}

// slotted is f with so many slots.
func slotted(f api.Func, slots int) api.Func {
	f.Slots = slots
	return f
}

func repeat(many int, code ...api.Ins) []api.Ins {
	return slices.Repeat(code, many)
}

// joined is code that follows on code.
func joined(code []api.Ins, more ...api.Ins) []api.Ins {
	return slices.Concat(code, more)
}

// text tells a value.
func text(v api.Value) string {
	n := strconv.FormatInt(v.N, 10)
	var parts []string
	for _, part := range v.Parts {
		parts = append(parts, text(part))
	}
	list := "[" + strings.Join(parts, " ") + "]"
	return [...]string{"none", n, [...]string{"false", "true"}[v.N&1], "p" + list, "f" + n + list, "r" + n}[v.Kind]
}

var hows = [...]string{"", "returned", "raised", "out of fuel", "exhausted", "stuck"}

// told is an outcome in a line: how it ended and with what, the events, the cells, the steps. A high label and a high Type are told by a mark.
func told(o api.Outcome) string {
	line := hows[o.Kind]
	if o.Value.Kind != 0 {
		line += " " + text(o.Value)
	}
	line += ","
	for _, event := range o.Trace {
		line += " " + strings.Repeat("^", event.Label) + strconv.FormatInt(event.N, 10)
	}
	line += ","
	for _, cell := range o.Heap {
		line += " " + strings.Repeat("^", cell.Type.Label) + text(cell.Value)
	}
	return line + ", " + strconv.Itoa(o.Steps)
}

// question is what Run is asked.
type question struct {
	c      api.Class
	arg    api.Value
	heap   []api.Cell
	limits api.Limits
}

func (q question) run() api.Outcome {
	return vm.Run(q.c, q.arg, q.heap, q.limits)
}

// roomyLimits are enough for all that isn't to end by them.
var roomyLimits = api.Limits{Fuel: api.MaxSteps, Frames: 100, Cells: 1100}

// ask is a question of these functions, with enough of all.
func ask(arg api.Value, heap []api.Cell, funcs ...api.Func) question {
	return question{api.Class{Lattice: chain(), Funcs: funcs}, arg, heap, roomyLimits}
}

// code is a question of one function, given 4, without cells.
func code(list ...api.Ins) question {
	return ask(integer(4), nil, function(list...))
}

func (q question) fuel(n int) question {
	q.limits.Fuel = n
	return q
}

func (q question) frames(n int) question {
	q.limits.Frames = n
	return q
}

func (q question) cells(n int) question {
	q.limits.Cells = n
	return q
}

// tells holds an outcome against a line, and what the reference tells; the class must be formed.
func (q question) tells(t *testing.T, line string) {
	t.Helper()
	if !class.Formed(q.c) {
		t.Errorf("not formed: %+v", q.c)
	}
	if got := told(q.run()); got != line {
		t.Errorf("given %s, %v:\n%s\nwant\n%s", text(q.arg), q.limits, got, line)
	}
	if got := told(q.refer()); got != line {
		t.Errorf("given %s, %v: the reference:\n%s\nwant\n%s", text(q.arg), q.limits, got, line)
	}
}

// refused holds an outcome to be Stuck with nothing else.
func (q question) refused(t *testing.T) {
	t.Helper()
	o := q.run()
	if o.Kind != api.Stuck || !reflect.DeepEqual(o.Value, api.Value{}) || len(o.Trace) > 0 || len(o.Heap) > 0 || o.Steps != 0 {
		t.Errorf("%d, %d events, %d cells, %d steps", o.Kind, len(o.Trace), len(o.Heap), o.Steps)
	}
}

// plain is v with nil for each list of no elements.
func plain(v reflect.Value) reflect.Value {
	made := reflect.New(v.Type()).Elem()
	switch v.Kind() {
	case reflect.Struct:
		for i := range v.NumField() {
			made.Field(i).Set(plain(v.Field(i)))
		}
	case reflect.Slice:
		for i := range v.Len() {
			made.Set(reflect.Append(made, plain(v.Index(i))))
		}
	default:
		made.Set(v)
	}
	return made
}

func alike(a, b any) bool {
	return reflect.DeepEqual(plain(reflect.ValueOf(a)).Interface(), plain(reflect.ValueOf(b)).Interface())
}
