package conv_test

import (
	"math"
	"reflect"
	"slices"
	"testing"

	"palisade/api"
	"palisade/conv"
	"palisade/ir"
)

// great are expressions of very many nodes: deep, wide, shared, and rings.
func great() []api.Expr {
	deep, shared := number(1), number(1)
	for range 1_000_000 {
		deep = expr(api.ENot, deep)
	}
	for range 1000 {
		shared = sum(shared, shared)
	}
	wide := slices.Repeat([]api.Expr{number(1)}, 300_000)
	ring := make([]api.Expr, 1)
	ring[0] = function("f", "n", number(1))
	ring[0].Parts = ring
	return []api.Expr{deep, shared, expr(api.ESeq, wide...), ring[0], expr(api.ESeq, ring[0], ring[0])}
}

// greatTypes are types of very many nodes: such as stand in themselves, share memory, or are deep.
func greatTypes() []api.Type {
	ring := make([]api.Type, 1000)
	for i := range ring {
		ring[i] = api.Type{Kind: api.Pair, Parts: ring}
	}
	shared := integer(0)
	for range 1000 {
		shared = pairOf(0, shared, shared)
	}
	return []api.Type{ring[0], shared, refs(300_000)}
}

// TestNothingPanics (R1): programs of all sorts and sizes, none of which is formed.
func TestNothingPanics(t *testing.T) {
	for _, e := range great() {
		refused(t, lone(e), -1, api.ErrForm)
		refused(t, lone(expr(api.ESeq, e, number(1))), -1, api.ErrForm)
	}
	for _, u := range greatTypes() {
		for _, change := range []func(p *api.Program){
			func(p *api.Program) { p.Param = u },
			func(p *api.Program) { p.Result = u },
			func(p *api.Program) { p.Body = api.Expr{Kind: api.ENew, Type: u, Parts: []api.Expr{number(1)}} },
			func(p *api.Program) { p.Body = function("f", "n", number(1)); p.Body.Give = u },
			func(p *api.Program) { p.Body.Type = u },
		} {
			p := lone(number(1))
			change(&p)
			refused(t, p, -1, api.ErrForm)
		}
	}
	for _, a := range []int{1, 7, 8, -2, math.MaxInt, math.MinInt} {
		p := lone(number(1))
		p.Exc = a
		refused(t, p, -1, api.ErrForm)
		p = lone(number(1))
		p.Param.Label = a
		refused(t, p, -1, api.ErrForm)
		p = lone(api.Expr{Kind: a, N: int64(a), M: int64(a), Parts: []api.Expr{number(1)}})
		refused(t, p, -1, api.ErrForm)
	}
	p := lone(number(1))
	p.Lattice = api.Lattice{Names: make([]string, 1000), Order: make([][]bool, 1000)}
	refused(t, p, -1, api.ErrForm)
}

// TestFullPrograms (R1): programs of as many nodes as may be, nested as deep as may be, are soon over.
func TestFullPrograms(t *testing.T) {
	spine := sum(slices.Repeat([]api.Expr{name("x")}, 900)...)
	for i := range 18 {
		spine = let([]string{"y", "x"}[i%2], number(1), spine)
	}
	beyond(t, lone(spine), 1)
	nest := inSeq(slices.Repeat([]api.Expr{function("f", "n", sum(name("x"), name("n"), name("n")))}, 200)...)
	for range 6 {
		nest = expr(api.ECall, function("g", "m", expr(api.ESeq, nest, name("x"))), number(1))
	}
	beyond(t, lone(nest), 207)
}

// room is a list with spare room in which something stands.
func room[T any](list []T, more T) []T {
	return append(append(make([]T, 0, len(list)+2), list...), more, more)[:len(list)]
}

func roomyType(t api.Type) api.Type {
	parts := make([]api.Type, 0, len(t.Parts))
	for _, part := range t.Parts {
		parts = append(parts, roomyType(part))
	}
	t.Parts = room(parts, integer(9))
	return t
}

func roomyExpr(e api.Expr) api.Expr {
	e.Type, e.Give = roomyType(e.Type), roomyType(e.Give)
	parts := make([]api.Expr, 0, len(e.Parts))
	for _, part := range e.Parts {
		parts = append(parts, roomyExpr(part))
	}
	e.Parts = room(parts, name("spare"))
	return e
}

// roomy is p in lists that all have spare room with something in it.
func roomy(p api.Program) api.Program {
	var rows [][]bool
	for _, row := range p.Lattice.Order {
		rows = append(rows, room(row, true))
	}
	p.Lattice = api.Lattice{Names: room(p.Lattice.Names, "spare"), Order: room(rows, []bool{true})}
	p.Param, p.Result, p.Body = roomyType(p.Param), roomyType(p.Result), roomyExpr(p.Body)
	return p
}

// whole is v with all lists as long as their room, in memory of its own.
func whole(v reflect.Value) reflect.Value {
	made := reflect.New(v.Type()).Elem()
	switch v.Kind() {
	case reflect.Struct:
		for i := range v.NumField() {
			made.Field(i).Set(whole(v.Field(i)))
		}
	case reflect.Slice:
		made.Set(reflect.MakeSlice(v.Type(), v.Cap(), v.Cap()))
		for i := range v.Cap() {
			made.Index(i).Set(whole(v.Slice(0, v.Cap()).Index(i)))
		}
	default:
		made.Set(v)
	}
	return made
}

func wholeOf(v any) any {
	return whole(reflect.ValueOf(v)).Interface()
}

// TestArgumentsAreLeft (R5): what is handed in is left as it is, its spare room too, and no answer hangs on that.
func TestArgumentsAreLeft(t *testing.T) {
	for plainly := range drawnPrograms(5, 1500) {
		p := roomy(plainly)
		before := wholeOf(p)
		fns, at, e := conv.Convert(p)
		caps := conv.Caps(p)
		if !reflect.DeepEqual(before, wholeOf(p)) {
			t.Fatalf("%s was changed", printed(plainly))
		}
		fns2, at2, e2 := conv.Convert(plainly)
		if at != at2 || e != e2 || !sameFns(fns, fns2) || e == api.OK && !sameCaps(caps, fns2) {
			t.Fatalf("%s: an answer hangs on spare room", printed(plainly))
		}
	}
}

// places adds where the members of all lists of v stand, spare room too, to those that are known, and tells whether they were unknown.
func places(v reflect.Value, known map[uintptr]reflect.Type) bool {
	switch v.Kind() {
	case reflect.Struct:
		for i := range v.NumField() {
			if !places(v.Field(i), known) {
				return false
			}
		}
	case reflect.Slice:
		v = v.Slice(0, v.Cap())
		for i := range v.Len() {
			at := v.Index(i).UnsafeAddr()
			if known[at] != nil {
				return false
			}
			known[at] = v.Type()
			if !places(v.Index(i), known) {
				return false
			}
		}
	}
	return true
}

// meets tells whether a member of a list of v stands where something is known to stand.
func meets(v reflect.Value, known map[uintptr]reflect.Type) bool {
	switch v.Kind() {
	case reflect.Struct:
		for i := range v.NumField() {
			if meets(v.Field(i), known) {
				return true
			}
		}
	case reflect.Slice:
		v = v.Slice(0, v.Cap())
		for i := range v.Len() {
			if known[v.Index(i).UnsafeAddr()] != nil || meets(v.Index(i), known) {
				return true
			}
		}
	}
	return false
}

// spoil sets all that stands in v's lists to zero.
func spoil(v reflect.Value) {
	switch v.Kind() {
	case reflect.Struct:
		for i := range v.NumField() {
			spoil(v.Field(i))
		}
	case reflect.Slice:
		v = v.Slice(0, v.Cap())
		for i := range v.Len() {
			spoil(v.Index(i))
			v.Index(i).SetZero()
		}
	}
}

// answer is what both calls answer.
type answer struct {
	Fns  []ir.Fn
	Caps [][]api.Type
}

func answered(t *testing.T, p api.Program) answer {
	t.Helper()
	return answer{converted(t, p), conv.Caps(p)}
}

func (a answer) same(b answer) bool {
	return sameFns(a.Fns, b.Fns) && sameCaps(a.Caps, b.Fns)
}

// TestNewMemory (R5): an answer shares no memory with what was handed in, within itself, or with another answer, and one that is changed changes nothing.
func TestNewMemory(t *testing.T) {
	for p := range acceptedPrograms(55, 1000) {
		p = roomy(p)
		before := wholeOf(p)
		first, second := answered(t, p), answered(t, p)
		known := map[uintptr]reflect.Type{}
		if !places(reflect.ValueOf(first), known) || !places(reflect.ValueOf(second), known) {
			t.Fatalf("%s: memory is shared", printed(p))
		}
		if meets(reflect.ValueOf(p), known) {
			t.Fatalf("%s: memory is kept", printed(p))
		}
		kept := wholeOf(second)
		spoil(reflect.ValueOf(first))
		if !reflect.DeepEqual(kept, wholeOf(second)) || !reflect.DeepEqual(before, wholeOf(p)) || !answered(t, p).same(second) {
			t.Fatalf("%s: something was changed", printed(p))
		}
	}
}

// TestSharedTypes (R5): programs whose types share memory are answered as if they didn't, in lists of their own.
func TestSharedTypes(t *testing.T) {
	same := pairOf(0, refOf(0, integer(0)), boolean(0))
	p := lone(api.Expr{})
	p.Param, p.Result = same, same
	fun := api.Expr{Kind: api.EFun, Text: "f", Arg: "n", Type: same, Give: same, Parts: []api.Expr{expr(api.ESeq, name("x"), expr(api.ECall, name("f"), name("n")))}}
	p.Body = let("y", expr(api.ECall, fun, name("x")), expr(api.EGet, api.Expr{Kind: api.ENew, Type: same, Parts: []api.Expr{name("y")}}))
	got := answered(t, p)
	if !got.same(answer{Fns: referenceFns(p)}) || !places(reflect.ValueOf(got), map[uintptr]reflect.Type{}) {
		t.Error(toldAll(p, got.Fns))
	}
}

// TestNoElements (R5): a list of no elements may be nil or empty.
func TestNoElements(t *testing.T) {
	p := lone(number(1))
	want := converted(t, p)
	p.Param.Parts, p.Result.Parts, p.Body.Parts, p.Body.Type.Parts, p.Body.Give.Parts = []api.Type{}, []api.Type{}, []api.Expr{}, []api.Type{}, []api.Type{}
	if got := converted(t, p); !sameFns(got, want) {
		t.Error(toldAll(p, got))
	}
}

// TestAgain: what is answered hangs on nothing but what is given.
func TestAgain(t *testing.T) {
	programs := slices.Collect(acceptedPrograms(8, 100))
	var first []answer
	for _, p := range programs {
		first = append(first, answered(t, p))
	}
	for i, p := range slices.Backward(programs) {
		if !answered(t, p).same(first[i]) {
			t.Fatalf("%s: another answer", printed(p))
		}
	}
}
