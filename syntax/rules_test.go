package syntax_test

import (
	"math/rand"
	"reflect"
	"strings"
	"testing"

	"palisade/api"
	"palisade/syntax"
)

// ring is an expression that stands in itself behind these numbers.
func ring(numbers ...int64) api.Expr {
	parts := make([][]api.Expr, len(numbers))
	for i := range parts {
		parts[i] = make([]api.Expr, 1)
	}
	for i, n := range numbers {
		parts[i][0] = api.Expr{Kind: api.ENot, N: n, Parts: parts[(i+1)%len(numbers)]}
	}
	return parts[0][0]
}

// shared is an expression so deep, all of whose Parts, so many each, are one and the same list.
func shared(deep, wide int, last api.Expr) api.Expr {
	for range deep - 1 {
		parts := make([]api.Expr, wide)
		for i := range parts {
			parts[i] = last
		}
		last = api.Expr{Kind: api.EBin, N: api.OpAdd, Parts: parts}
	}
	return last
}

// deepExpr is an expression so deep.
func deepExpr(deep int, last api.Expr) api.Expr {
	for range deep - 1 {
		last = expr(api.ENot, last)
	}
	return last
}

// wideExpr is an expression of so many Parts, the last of which is that one.
func wideExpr(n int, last api.Expr) api.Expr {
	parts := make([]api.Expr, n)
	for i := range parts {
		parts[i] = expr(api.ENot, number(1))
	}
	parts[n-1] = last
	return api.Expr{Kind: api.ESeq, Parts: parts}
}

// greatType stands in itself, and has very many nodes beside.
func greatType() api.Type {
	parts := make([]api.Type, 1000)
	for i := range parts {
		parts[i] = api.Type{Kind: api.Pair, Parts: parts}
	}
	return parts[0]
}

// great are expressions of very many nodes, each with whether it nests deeper than MaxNest.
func great() map[string]api.Expr {
	return map[string]api.Expr{
		"deep":        deepExpr(1_000_000, number(1)),
		"wide":        wideExpr(300_000, number(1)),
		"shared":      shared(1000, 2, number(1)),
		"shared wide": shared(30, 1000, number(1)),
		"a ring":      ring(0),
		"rings":       ring(0, 1, 0, 1, 1),
		"a type":      function("f", "v", greatType(), greatType(), 0, 0, typed(api.ENew, greatType(), api.Expr{Kind: api.EInt, Give: greatType()})),
	}
}

// callAll makes the five calls that take more than a text.
func callAll(p, q api.Program) {
	syntax.Formed(p)
	syntax.Print(p)
	syntax.Type(p.Lattice, p.Param)
	syntax.Same(p.Body, q.Body)
	syntax.Nest(p.Body)
}

// TestNothingPanics (R1): programs and expressions of all sorts and sizes.
func TestNothingPanics(t *testing.T) {
	var odd []api.Program
	for _, e := range great() {
		odd = append(odd, program(e), api.Program{Body: e})
	}
	for _, e := range each(api.Expr{}, expr(-1), expr(1<<62, number(1))) {
		odd = append(odd, program(e), api.Program{Lattice: api.Lattice{Names: []string{"a"}}, Body: e})
		for _, u := range unlike(e) {
			odd = append(odd, program(u))
		}
	}
	odd = append(odd, api.Program{}, program(api.Expr{}), api.Program{Lattice: api.Lattice{Names: make([]string, 9), Order: make([][]bool, 3)}, Param: greatType(), Result: greatType()})
	p := program(number(1))
	p.Param = greatType()
	odd = append(odd, p)
	for i, p := range odd {
		callAll(p, p)
		callAll(p, odd[(i*7+3)%len(odd)])
	}
}

// TestTextsDoNotPanic (R1): texts of all sorts, cut at each place, and turned.
func TestTextsDoNotPanic(t *testing.T) {
	whole := head + "let f = fun g(y: (int@low, int@low)@low): [int@low -> int@low ! low, none]@low ! high, low => try g(y) with e => 1 end in (f(1) + 2) * 3; out[low] x"
	for from := range len(whole) {
		syntax.Parse(whole[from:])
		syntax.Parse(whole[:from])
		syntax.Parse(whole[:from] + "\x80" + whole[from:])
	}
	for _, piece := range []string{"(", "not ", "let x = ", "if ", "ref(", "[", "1+", "1;", "f(", "try ", "fun f(x: ", "new[", "\x80", "lattice { ", ",", "a<a,"} {
		for _, size := range []int{1, 100, 650, 1900, 1999, 2000, 2001, 9000} {
			syntax.Parse(strings.Repeat(piece, size))
			syntax.Parse(head + strings.Repeat(piece, size))
			syntax.Parse(head[:42] + strings.Repeat(piece, size))
			syntax.Parse(head[:10] + strings.Repeat(piece, size))
		}
	}
	draw := rand.New(rand.NewSource(1))
	words := someWords()
	for range 20000 {
		s := head[:draw.Intn(len(head)+1)]
		for range draw.Intn(12) {
			s += " " + words[draw.Intn(len(words))]
		}
		syntax.Parse(s)
	}
}

// TestGreatExpressions (P6.2, P6.3): what is told of expressions of very many nodes.
func TestGreatExpressions(t *testing.T) {
	deep := map[string]int{"deep": 31, "wide": 3, "shared": 31, "shared wide": 30, "a ring": 31, "rings": 31, "a type": 3}
	for name, e := range great() {
		if syntax.Formed(program(e)) || syntax.Nest(e) != deep[name] || !syntax.Same(e, e) || syntax.Same(e, number(1)) || syntax.Same(number(1), e) {
			t.Error(name, syntax.Nest(e))
		}
		if s, err := syntax.Print(program(e)); s != "" || err != api.ErrForm {
			t.Error(name, err)
		}
	}
	if syntax.Formed(program(shared(30, 2, number(1)))) || syntax.Nest(shared(30, 2, number(1))) != 30 || syntax.Nest(wideExpr(10, nots(30))) != 31 || syntax.Nest(wideExpr(10, nots(29))) != 30 {
		t.Error("many nodes, not too deep")
	}
	if !syntax.Formed(program(shared(10, 2, number(1)))) || syntax.Formed(program(shared(11, 2, number(1)))) {
		t.Error("Parts that share memory")
	}
}

// TestLastOfGreatExpressions (P6.3): Same goes through all of a great expression, to its last node.
func TestLastOfGreatExpressions(t *testing.T) {
	made := map[string]func(last api.Expr) api.Expr{
		"deep":   func(last api.Expr) api.Expr { return deepExpr(100_000, last) },
		"wide":   func(last api.Expr) api.Expr { return wideExpr(100_000, last) },
		"shared": func(last api.Expr) api.Expr { return shared(500, 2, last) },
	}
	for name, make := range made {
		x := make(number(1))
		for _, last := range []api.Expr{number(2), truth(1), at(7, number(1)), {Kind: api.EInt, N: 1, Text: "a"}, {Kind: api.EInt, N: 1, Give: integer(0)}, expr(api.EInt, number(1))} {
			want := last.At == 7
			if syntax.Same(x, make(last)) != want || syntax.Same(make(last), x) != want {
				t.Errorf("%s, with %+v at the end", name, last)
			}
		}
	}
	if !syntax.Same(ring(0), ring(0, 0, 0)) || !syntax.Same(ring(0, 1), ring(0, 1, 0, 1)) || syntax.Same(ring(0, 1), ring(1, 0)) || syntax.Same(ring(0), ring(0, 0, 1)) {
		t.Error("rings")
	}
}

// TestErrorsStandAlone (R3): beside an error all else is zero but the place, and beside none there is no place.
func TestErrorsStandAlone(t *testing.T) {
	for s, want := range map[string]api.Errno{
		head + "x": api.OK, head + "x +": api.ErrSyntax, head + "$": api.ErrLex, "lattice { a, b }": api.ErrLattice, strings.Repeat(" ", 8193): api.ErrLong,
		head + strings.Repeat("not ", 30) + "x": api.ErrLimit, head + "new[" + deepType(7) + "] 1": api.ErrLimit, strings.Repeat(";", 2001): api.ErrLimit,
	} {
		p, at, e := syntax.Parse(s)
		if e != want || e != api.OK && !reflect.DeepEqual(p, api.Program{}) || e == api.OK && at != 0 {
			t.Errorf("Parse(%.80q) = %+v, %d, %v", s, p, at, e)
		}
	}
}

// room is a list with spare room in which something stands.
func room[T any](list []T, more T) []T {
	return append(append(make([]T, 0, len(list)+2), list...), more, more)[:len(list)]
}

func roomyType(t api.Type) api.Type {
	parts := make([]api.Type, 0, len(t.Parts))
	for _, part := range t.Parts {
		parts = append(parts, roomyType(part))
	}
	t.Parts = room(parts, integer(9))
	return t
}

func roomyExpr(e api.Expr) api.Expr {
	e.Type, e.Give = roomyType(e.Type), roomyType(e.Give)
	parts := make([]api.Expr, 0, len(e.Parts))
	for _, part := range e.Parts {
		parts = append(parts, roomyExpr(part))
	}
	e.Parts = room(parts, name("spare"))
	return e
}

// roomy is p in lists that all have spare room with something in it.
func roomy(p api.Program) api.Program {
	var rows [][]bool
	for _, row := range p.Lattice.Order {
		rows = append(rows, room(row, true))
	}
	p.Lattice = api.Lattice{Names: room(p.Lattice.Names, "spare"), Order: room(rows, []bool{true})}
	p.Param, p.Result, p.Body = roomyType(p.Param), roomyType(p.Result), roomyExpr(p.Body)
	return p
}

// whole is v with all lists as long as their room, in memory of its own.
func whole(v reflect.Value) reflect.Value {
	made := reflect.New(v.Type()).Elem()
	switch v.Kind() {
	case reflect.Struct:
		for i := range v.NumField() {
			made.Field(i).Set(whole(v.Field(i)))
		}
	case reflect.Slice:
		made.Set(reflect.MakeSlice(v.Type(), v.Cap(), v.Cap()))
		for i := range v.Cap() {
			made.Index(i).Set(whole(v.Slice(0, v.Cap()).Index(i)))
		}
	default:
		made.Set(v)
	}
	return made
}

// TestArgumentsAreLeft (R5): what is handed in is left as it is, its spare room too, and no answer hangs on that.
func TestArgumentsAreLeft(t *testing.T) {
	draw := rand.New(rand.NewSource(5))
	for n := range 300 {
		p := drawnProgram(draw, 1+n%5)
		if n%3 == 0 {
			p.Body.M = 9
		}
		q := roomy(p)
		before := whole(reflect.ValueOf(q)).Interface()
		callAll(q, q)
		if !reflect.DeepEqual(before, whole(reflect.ValueOf(q)).Interface()) {
			t.Fatalf("%+v was changed", p)
		}
		s, e := syntax.Print(p)
		u, f := syntax.Print(q)
		if s != u || e != f || syntax.Formed(p) != syntax.Formed(q) || !syntax.Same(p.Body, q.Body) || syntax.Nest(p.Body) != syntax.Nest(q.Body) {
			t.Fatalf("%+v: an answer hangs on spare room", p)
		}
	}
}

// places adds where the members of all lists of v stand, spare room too, to those that are known, and tells whether they were unknown.
func places(v reflect.Value, known map[uintptr]reflect.Type) bool {
	switch v.Kind() {
	case reflect.Struct:
		for i := range v.NumField() {
			if !places(v.Field(i), known) {
				return false
			}
		}
	case reflect.Slice:
		v = v.Slice(0, v.Cap())
		for i := range v.Len() {
			at := v.Index(i).UnsafeAddr()
			if known[at] != nil {
				return false
			}
			known[at] = v.Type()
			if !places(v.Index(i), known) {
				return false
			}
		}
	}
	return true
}

// TestNewMemory (R5): no two lists of one answer, or of two, share memory, and an answer that is changed changes nothing of later ones.
func TestNewMemory(t *testing.T) {
	draw := rand.New(rand.NewSource(55))
	for n := range 300 {
		s, _ := syntax.Print(drawnProgram(draw, 1+n%5))
		first, _, e := syntax.Parse(s)
		if e != api.OK {
			continue
		}
		second, _, _ := syntax.Parse(s)
		known := map[uintptr]reflect.Type{}
		if !places(reflect.ValueOf(first), known) || !places(reflect.ValueOf(second), known) {
			t.Fatalf("%s: memory is shared", s)
		}
		kept := whole(reflect.ValueOf(second)).Interface()
		spoil(reflect.ValueOf(first))
		third, _, _ := syntax.Parse(s)
		if !reflect.DeepEqual(kept, whole(reflect.ValueOf(second)).Interface()) || !sameProgram(second, third, true) {
			t.Fatalf("%s: an answer was changed", s)
		}
	}
}

// spoil sets all that stands in v's lists to zero.
func spoil(v reflect.Value) {
	switch v.Kind() {
	case reflect.Struct:
		for i := range v.NumField() {
			spoil(v.Field(i))
		}
	case reflect.Slice:
		v = v.Slice(0, v.Cap())
		for i := range v.Len() {
			spoil(v.Index(i))
			v.Index(i).SetZero()
		}
	}
}
