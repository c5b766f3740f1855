package check_test

import (
	"math"
	"math/rand"
	"reflect"
	"strconv"
	"testing"

	"palisade/api"
	"palisade/check"
)

// great are expressions of very many nodes: deep, wide, shared, and rings.
func great() []api.Expr {
	deep, shared := number(1), number(1)
	for range 1_000_000 {
		deep = expr(api.ENot, deep)
	}
	for range 1000 {
		shared = api.Expr{Kind: api.EBin, N: api.OpAdd, Parts: []api.Expr{shared, shared}}
	}
	wide := make([]api.Expr, 300_000)
	for i := range wide {
		wide[i] = number(1)
	}
	ring := make([]api.Expr, 1)
	ring[0] = api.Expr{Kind: api.ENot, Parts: ring}
	return []api.Expr{deep, shared, expr(api.ESeq, wide...), ring[0], expr(api.ESeq, ring[0], ring[0])}
}

// greatType stands in itself, and has very many nodes beside.
func greatType() api.Type {
	parts := make([]api.Type, 1000)
	for i := range parts {
		parts[i] = api.Type{Kind: api.Pair, Parts: parts}
	}
	return parts[0]
}

// callAll makes the three calls.
func callAll(l api.Lattice, env []check.Bind, pc, heap int, e api.Expr, t api.Type) {
	check.Judge(l, env, pc, heap, e)
	check.Program(api.Program{Lattice: l, Arg: "x", Param: t, Result: t, Exc: pc, Body: e})
	check.Fits(l, t, t)
	check.Fits(l, t, integer(0))
	check.Fits(l, integer(0), t)
}

// TestNothingPanics (R1): arguments of all sorts and sizes.
func TestNothingPanics(t *testing.T) {
	exprs := append(great(), unformedExprs()...)
	odd := append(unformedTypes(), greatType(), integer(0))
	exprs = append(exprs, number(1), api.Expr{Kind: api.ENew, Type: greatType(), Parts: []api.Expr{number(1)}})
	for _, l := range append(unformedLattices(), lattices()...) {
		for _, e := range exprs {
			callAll(l, nil, 0, 0, e, integer(0))
		}
		for _, u := range odd {
			callAll(l, []check.Bind{{Name: "x", Type: u}}, 0, 0, name("x"), u)
		}
		for _, a := range []int{0, 1, 7, 8, -1, -2, math.MaxInt, math.MinInt} {
			callAll(l, nil, a, 0, number(1), integer(a))
			callAll(l, nil, 0, a, number(1), integer(a))
		}
	}
}

// TestManyNames (R1): with very many names, functions within functions, it is soon over.
func TestManyNames(t *testing.T) {
	env := make([]check.Bind, 200_000)
	for i := range env {
		env[i] = check.Bind{Name: "n" + strconv.Itoa(i), Type: integer(1)}
	}
	// 25 functions within one another, each of which looks up the first of all names.
	e := name("n0")
	for range 25 {
		e = api.Expr{Kind: api.EFun, Text: "f", Arg: "a", Type: integer(0), Give: integer(1), Parts: []api.Expr{expr(api.ESeq, name("n0"), e)}}
		e = expr(api.ECall, e, number(1))
	}
	for e = e.Parts[0]; nest(e) > api.MaxNest; {
		e = e.Parts[0].Parts[1].Parts[0]
	}
	if got, x, at, err := check.Judge(chain(), env, 0, 0, e); err != api.OK || at != 0 || x != 0 && x != api.None || got.Kind != api.Fun {
		t.Error(got, x, at, err)
	}
}

func nest(e api.Expr) int {
	deep := 0
	for _, part := range e.Parts {
		deep = max(deep, nest(part))
	}
	return deep + 1
}

// room is a list with spare room in which something stands.
func room[T any](list []T, more T) []T {
	return append(append(make([]T, 0, len(list)+2), list...), more, more)[:len(list)]
}

func roomyType(t api.Type) api.Type {
	parts := make([]api.Type, 0, len(t.Parts))
	for _, part := range t.Parts {
		parts = append(parts, roomyType(part))
	}
	t.Parts = room(parts, integer(9))
	return t
}

func roomyExpr(e api.Expr) api.Expr {
	e.Type, e.Give = roomyType(e.Type), roomyType(e.Give)
	parts := make([]api.Expr, 0, len(e.Parts))
	for _, part := range e.Parts {
		parts = append(parts, roomyExpr(part))
	}
	e.Parts = room(parts, name("spare"))
	return e
}

// roomy is q in lists that all have spare room with something in it.
func roomy(q question) question {
	var rows [][]bool
	for _, row := range q.l.Order {
		rows = append(rows, room(row, true))
	}
	q.l = api.Lattice{Names: room(q.l.Names, "spare"), Order: room(rows, []bool{true})}
	var env []check.Bind
	for _, b := range q.env {
		env = append(env, check.Bind{Name: b.Name, Type: roomyType(b.Type)})
	}
	q.env, q.e = room(env, check.Bind{Name: "x", Type: boolean(0)}), roomyExpr(q.e)
	return q
}

// held is what a question hands in.
func (q question) held() []any {
	return []any{q.l, q.env, q.e}
}

// whole is v with all lists as long as their room, in memory of its own.
func whole(v reflect.Value) reflect.Value {
	made := reflect.New(v.Type()).Elem()
	switch v.Kind() {
	case reflect.Struct:
		for i := range v.NumField() {
			made.Field(i).Set(whole(v.Field(i)))
		}
	case reflect.Slice:
		made.Set(reflect.MakeSlice(v.Type(), v.Cap(), v.Cap()))
		for i := range v.Cap() {
			made.Index(i).Set(whole(v.Slice(0, v.Cap()).Index(i)))
		}
	default:
		made.Set(v)
	}
	return made
}

func wholes(all []any) []any {
	var made []any
	for _, v := range all {
		made = append(made, whole(reflect.ValueOf(v)).Interface())
	}
	return made
}

// asProgram is the question's expression as a Body, what is given being the last of its names.
func (q question) asProgram() api.Program {
	p := api.Program{Lattice: q.l, Arg: "x", Param: integer(0), Result: integer(0), Exc: q.pc, Body: q.e}
	if n := len(q.env); n > 0 {
		p.Arg, p.Param, p.Result = q.env[n-1].Name, q.env[n-1].Type, q.env[0].Type
	}
	return p
}

// TestArgumentsAreLeft (R5): what is handed in is left as it is, its spare room too, and no answer hangs on that.
func TestArgumentsAreLeft(t *testing.T) {
	draw := rand.New(rand.NewSource(5))
	for n := range 2000 {
		plainly := drawnQuestion(draw, 1+n%5)
		q := roomy(plainly)
		before := wholes(q.held())
		got, x, at, err := q.judge()
		check.Program(q.asProgram())
		if n := len(q.env); n > 0 {
			check.Fits(q.l, q.env[0].Type, q.env[n-1].Type)
		}
		if !reflect.DeepEqual(before, wholes(q.held())) {
			t.Fatalf("%+v was changed", plainly)
		}
		t2, x2, at2, err2 := plainly.judge()
		if x != x2 || at != at2 || err != err2 || !reflect.DeepEqual(plain(got), plain(t2)) {
			t.Fatalf("%+v: an answer hangs on spare room", plainly)
		}
	}
}

// places adds where the members of all lists of v stand, spare room too, to those that are known, and tells whether they were unknown.
func places(v reflect.Value, known map[uintptr]reflect.Type) bool {
	switch v.Kind() {
	case reflect.Struct:
		for i := range v.NumField() {
			if !places(v.Field(i), known) {
				return false
			}
		}
	case reflect.Slice:
		v = v.Slice(0, v.Cap())
		for i := range v.Len() {
			at := v.Index(i).UnsafeAddr()
			if known[at] != nil {
				return false
			}
			known[at] = v.Type()
			if !places(v.Index(i), known) {
				return false
			}
		}
	}
	return true
}

// meets tells whether a member of a list of v stands where something is known to stand.
func meets(v reflect.Value, known map[uintptr]reflect.Type) bool {
	switch v.Kind() {
	case reflect.Struct:
		for i := range v.NumField() {
			if meets(v.Field(i), known) {
				return true
			}
		}
	case reflect.Slice:
		v = v.Slice(0, v.Cap())
		for i := range v.Len() {
			if known[v.Index(i).UnsafeAddr()] != nil || meets(v.Index(i), known) {
				return true
			}
		}
	}
	return false
}

// spoil sets all that stands in v's lists to zero.
func spoil(v reflect.Value) {
	switch v.Kind() {
	case reflect.Struct:
		for i := range v.NumField() {
			spoil(v.Field(i))
		}
	case reflect.Slice:
		v = v.Slice(0, v.Cap())
		for i := range v.Len() {
			spoil(v.Index(i))
			v.Index(i).SetZero()
		}
	}
}

// TestNewMemory (R5): an answer shares no memory with what was handed in, within itself, or with a later answer, and one that is changed changes nothing.
func TestNewMemory(t *testing.T) {
	draw := rand.New(rand.NewSource(55))
	answered := 0
	for n := range 4000 {
		q := roomy(drawnQuestion(draw, 1+n%5))
		before := wholes(q.held())
		first, _, _, err := q.judge()
		if err != api.OK || len(first.Parts) == 0 {
			continue
		}
		answered++
		second, _, _, _ := q.judge()
		third, _, _, _ := check.Program(q.asProgram())
		known := map[uintptr]reflect.Type{}
		for _, answer := range []api.Type{first, second, third} {
			if !places(reflect.ValueOf(answer), known) {
				t.Fatalf("%+v: memory is shared", q)
			}
		}
		for _, v := range q.held() {
			if meets(reflect.ValueOf(v), known) {
				t.Fatalf("%+v: memory is kept", q)
			}
		}
		kept := wholes([]any{second, third})
		spoil(reflect.ValueOf(first))
		fourth, _, _, _ := q.judge()
		if !reflect.DeepEqual(kept, wholes([]any{second, third})) || !reflect.DeepEqual(before, wholes(q.held())) || !reflect.DeepEqual(plain(second), plain(fourth)) {
			t.Fatalf("%+v: something was changed", q)
		}
	}
	if answered < 300 {
		t.Error(answered)
	}
}

// TestSharedTypes (R5): arguments whose lists share memory are answered as if they didn't, in lists of their own.
func TestSharedTypes(t *testing.T) {
	same := pairOf(1, integer(0), boolean(1))
	env := []check.Bind{{Name: "x", Type: same}, {Name: "y", Type: same}}
	e := expr(api.EPair, name("x"), expr(api.EPair, name("y"), name("x")))
	got, x, at, err := check.Judge(chain(), env, 0, 0, e)
	if err != api.OK || x != api.None || at != 0 || !reflect.DeepEqual(plain(got), pairOf(0, same, pairOf(0, same, same))) || !places(reflect.ValueOf(got), map[uintptr]reflect.Type{}) {
		t.Error(got, x, at, err)
	}
}
