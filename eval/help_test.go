package eval_test

import (
	"reflect"
	"strconv"
	"strings"
	"testing"

	"palisade/api"
	"palisade/eval"
	"palisade/syntax"
)

// head is what stands ahead of the Body in all texts.
const head = "lattice { low, high, low < high } main(x: int@low): int@low ! low = "

// sign is what stands in a text for the types and bounds of a function of an int.
const sign = ": int@low): int@low ! low, none =>"

// program is one, from its Body's text. Some things are written shortly there: fun f(n) e, new e, raise e, out e.
func program(t *testing.T, text string) api.Program {
	t.Helper()
	var whole strings.Builder
	for i, piece := range strings.Split(text, "fun ") {
		if i > 0 {
			n := strings.Index(piece, ")")
			piece = "fun " + piece[:n] + sign + piece[n+1:]
		}
		whole.WriteString(piece)
	}
	long := strings.NewReplacer("new ", "new[int@low] ", "raise ", "raise[int@low] ", "out ", "out[low] ").Replace(whole.String())
	p, at, e := syntax.Parse(head + long)
	if e != api.OK {
		t.Fatal("no expression:", text, at-len(head), e)
	}
	return p
}

// around is the program of a Body that was made otherwise.
func around(body api.Expr) api.Program {
	low := api.Type{Kind: api.Int}
	return api.Program{Lattice: api.Lattice{Names: []string{"low", "high"}, Order: [][]bool{{true, true}, {false, true}}}, Arg: "x", Param: low, Result: low, Body: body}
}

func integer(n int64) api.Value {
	return api.Value{Kind: api.Int, N: n}
}

func boolean(n int64) api.Value {
	return api.Value{Kind: api.Bool, N: n}
}

func pair(a, b api.Value) api.Value {
	return api.Value{Kind: api.Pair, Parts: []api.Value{a, b}}
}

func fun(n int64, parts ...api.Value) api.Value {
	return api.Value{Kind: api.Fun, N: n, Parts: parts}
}

func ref(n int64) api.Value {
	return api.Value{Kind: api.Ref, N: n}
}

// sized is a formed value of so many nodes, at least one.
func sized(nodes int) api.Value {
	v := fun(1)
	for range nodes - 1 {
		v.Parts = append(v.Parts, integer(3))
	}
	return v
}

// cells are those with these values, of types that tell them apart.
func cells(values ...api.Value) []api.Cell {
	var made []api.Cell
	for i, v := range values {
		made = append(made, api.Cell{Type: api.Type{Kind: api.Int, Label: i % 2}, Value: v})
	}
	return made
}

func number(n int64) api.Expr {
	return api.Expr{Kind: api.EInt, N: n}
}

func name(text string) api.Expr {
	return api.Expr{Kind: api.EVar, Text: text}
}

func expr(kind int, parts ...api.Expr) api.Expr {
	return api.Expr{Kind: kind, Parts: parts}
}

func function(text, arg string, part api.Expr) api.Expr {
	low := api.Type{Kind: api.Int}
	return api.Expr{Kind: api.EFun, Text: text, Arg: arg, Type: low, Give: low, Parts: []api.Expr{part}}
}

// text tells a value, also such as isn't formed.
func text(v api.Value) string {
	n := strconv.FormatInt(v.N, 10)
	var parts []string
	for _, part := range v.Parts {
		parts = append(parts, text(part))
	}
	list := "[" + strings.Join(parts, " ") + "]"
	return [...]string{"none", n, [...]string{"false", "true"}[v.N&1], "p" + list, "f" + n + list, "r" + n}[v.Kind]
}

var hows = [...]string{"", "returned", "raised", "out of fuel", "exhausted", "stuck"}

// told is an outcome in a line: how it ended and with what, the events, the cells, the steps. A high label and a high Type are told by a mark.
func told(o api.Outcome) string {
	line := hows[o.Kind]
	if o.Value.Kind != 0 {
		line += " " + text(o.Value)
	}
	line += ","
	for _, event := range o.Trace {
		line += " " + strings.Repeat("^", event.Label) + strconv.FormatInt(event.N, 10)
	}
	line += ","
	for _, cell := range o.Heap {
		line += " " + strings.Repeat("^", cell.Type.Label) + text(cell.Value)
	}
	return line + ", " + strconv.Itoa(o.Steps)
}

// tells holds runs of texts, with enough fuel, against lines.
func tells(t *testing.T, arg api.Value, heap []api.Cell, want map[string]string) {
	t.Helper()
	for text, line := range want {
		tellsOne(t, program(t, text), arg, heap, api.MaxSteps, line)
	}
}

func tellsOne(t *testing.T, p api.Program, arg api.Value, heap []api.Cell, fuel int, line string) {
	t.Helper()
	if got := told(eval.Run(p, arg, heap, fuel)); got != line {
		shown, _ := syntax.Print(p)
		t.Errorf("%s\ngiven %s, fuel %d:\n%s\nwant\n%s", shown, text(arg), fuel, got, line)
	}
}

// refuses holds a run to be Stuck with nothing else.
func refuses(t *testing.T, p api.Program, arg api.Value, heap []api.Cell, fuel int) {
	t.Helper()
	o := eval.Run(p, arg, heap, fuel)
	if o.Kind != api.Stuck || !reflect.DeepEqual(o.Value, api.Value{}) || len(o.Trace) > 0 || len(o.Heap) > 0 || o.Steps != 0 {
		t.Errorf("%d, %d events, %d cells, %d steps", o.Kind, len(o.Trace), len(o.Heap), o.Steps)
	}
}

// wantTypes holds the Types of the cells that are told against texts.
func wantTypes(t *testing.T, p api.Program, arg api.Value, heap []api.Cell, want ...string) {
	t.Helper()
	o := eval.Run(p, arg, heap, api.MaxSteps)
	if len(o.Heap) != len(want) {
		t.Fatal("cells:", o.Heap)
	}
	for i, cell := range o.Heap {
		if got, e := syntax.Type(p.Lattice, cell.Type); e != api.OK || got != want[i] {
			t.Errorf("the cell %d is of %s, %d; want %s", i, got, e, want[i])
		}
	}
}
