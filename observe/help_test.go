package observe_test

import (
	"math"
	"reflect"
	"testing"

	"palisade/api"
	"palisade/observe"
)

const none = api.None

// chain is low (0) below high (1).
func chain() api.Lattice {
	return api.Lattice{Names: []string{"low", "high"}, Order: [][]bool{{true, true}, {false, true}}}
}

// The labels of diamond: the left and the right one lie beside one another.
const (
	top    = 0
	left   = 1
	right  = 2
	bottom = 3
)

// diamond is a lattice whose bottom isn't 0.
func diamond() api.Lattice {
	return lattices()[2]
}

// unformed are lattices that are none.
func unformed() []api.Lattice {
	return []api.Lattice{
		{},
		{Names: []string{"low", "high"}},
		{Order: [][]bool{{true, true}, {false, true}}},
		{Names: []string{"low", "high"}, Order: [][]bool{{true, true}, {true, true}}},
		{Names: []string{"low", "high"}, Order: [][]bool{{true, false}, {false, true}}},
		{Names: []string{"low", "9"}, Order: [][]bool{{true, true}, {false, true}}},
		{Names: []string{"low", "high"}, Order: [][]bool{{true, true}, {}}},
	}
}

// noLabels are numbers that are no labels of that lattice.
func noLabels(l api.Lattice) []int {
	return []int{none, -2, math.MinInt, len(l.Names), len(l.Names) + 1, math.MaxInt}
}

func integer(n int64) api.Value {
	return api.Value{Kind: api.Int, N: n}
}

func boolean(n int64) api.Value {
	return api.Value{Kind: api.Bool, N: n}
}

func pair(a, b api.Value) api.Value {
	return api.Value{Kind: api.Pair, Parts: []api.Value{a, b}}
}

func fun(n int64, parts ...api.Value) api.Value {
	return api.Value{Kind: api.Fun, N: n, Parts: parts}
}

func ref(n int64) api.Value {
	return api.Value{Kind: api.Ref, N: n}
}

func typed(kind, label int, parts ...api.Type) api.Type {
	return api.Type{Kind: kind, Label: label, Parts: parts}
}

func intAt(label int) api.Type {
	return typed(api.Int, label)
}

// refAt is a Ref of an Int.
func refAt(label, holds int) api.Type {
	return typed(api.Ref, label, intAt(holds))
}

// funAt is a Fun, of which no observer sees more than the Label.
func funAt(label int) api.Type {
	return typed(api.Fun, label, intAt(0), intAt(0))
}

func cell(t api.Type, v api.Value) api.Cell {
	return api.Cell{Type: t, Value: v}
}

// capturing is a function of these Caps, of which nothing else is seen.
func capturing(caps ...api.Type) api.Func {
	return api.Func{Caps: caps}
}

// scene is what View is asked, but for the label.
type scene struct {
	L     api.Lattice
	Funcs []api.Func
	Cells []api.Cell
	Seeds []observe.Seed
}

func (s scene) view(label int) string {
	return observe.View(s.L, label, s.Funcs, s.Cells, s.Seeds)
}

// of is a scene of a diamond without seeds.
func of(funcs []api.Func, cells ...api.Cell) scene {
	return scene{L: diamond(), Funcs: funcs, Cells: cells}
}

// seed is the scene with one seed more.
func (s scene) seed(t api.Type, v api.Value) scene {
	s.Seeds = append(append([]observe.Seed(nil), s.Seeds...), observe.Seed{T: t, V: v})
	return s
}

// tells holds the view of that label against a text, and what the reference tells.
func (s scene) tells(t *testing.T, label int, text string) {
	t.Helper()
	if got := s.view(label); got != text {
		t.Errorf("%d sees\n%s\nnot\n%s", label, got, text)
	}
	if got := s.refer(label); got != text {
		t.Errorf("the reference: %d sees\n%s\nnot\n%s", label, got, text)
	}
}

// plain is v with nil for each list of no elements.
func plain(v reflect.Value) reflect.Value {
	made := reflect.New(v.Type()).Elem()
	switch v.Kind() {
	case reflect.Struct:
		for i := range v.NumField() {
			made.Field(i).Set(plain(v.Field(i)))
		}
	case reflect.Slice:
		for i := range v.Len() {
			made.Set(reflect.Append(made, plain(v.Index(i))))
		}
	default:
		made.Set(v)
	}
	return made
}

func alike(a, b any) bool {
	return reflect.DeepEqual(plain(reflect.ValueOf(a)).Interface(), plain(reflect.ValueOf(b)).Interface())
}

// The instructions that have no number.
var (
	pop    = op(api.OpPop)
	couple = op(api.OpPair)
	self   = op(api.OpSelf)
	call   = op(api.OpCall)
	set    = op(api.OpSet)
	throw  = op(api.OpRaise)
	give   = op(api.OpReturn)
)

// op is an instruction of that Op and that number.
func op(op int, a ...int64) api.Ins {
	i := api.Ins{Op: op}
	if len(a) > 0 {
		i.A = a[0]
	}
	return i
}

func number(n int64) api.Ins { return op(api.OpInt, n) }
func truth(n int64) api.Ins  { return op(api.OpBool, n) }
func load(s int64) api.Ins   { return op(api.OpLoad, s) }
func store(s int64) api.Ins  { return op(api.OpStore, s) }
func closes(k int64) api.Ins { return op(api.OpClose, k) }
func unless(t int64) api.Ins { return op(api.OpUnless, t) }
