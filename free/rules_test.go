package free_test

import (
	"math/rand"
	"reflect"
	"slices"
	"strconv"
	"testing"

	"palisade/api"
	"palisade/free"
	"palisade/syntax"
)

// answers are those of the five calls.
type answers struct {
	Names, Captures []string
	Table           []free.Entry
	Stands, Closed  bool
}

func callAll(scope []string, n string, e api.Expr) answers {
	return answers{free.Names(e), free.Captures(scope, e), free.Table(n, e), free.Stands(e, n), free.Closed(scope, e)}
}

func (a answers) same(b answers) bool {
	return a.Stands == b.Stands && a.Closed == b.Closed && slices.Equal(a.Names, b.Names) && slices.Equal(a.Captures, b.Captures) &&
		slices.EqualFunc(a.Table, b.Table, func(a, b free.Entry) bool { return syntax.Same(a.Fun, b.Fun) && slices.Equal(a.Caps, b.Caps) })
}

// ringType stands in itself, and has very many nodes beside.
func ringType() api.Type {
	parts := make([]api.Type, 1000)
	for i := range parts {
		parts[i] = api.Type{Kind: api.Pair, Parts: parts}
	}
	return parts[0]
}

// longType nests very deep.
func longType() api.Type {
	t := api.Type{Kind: api.Int}
	for range 100_000 {
		t = api.Type{Kind: api.Ref, Parts: []api.Type{t}}
	}
	return t
}

// sharedType has more nodes than there is memory.
func sharedType() api.Type {
	t := api.Type{Kind: api.Int}
	for range 100 {
		t = api.Type{Kind: api.Pair, Parts: []api.Type{t, t}}
	}
	return t
}

// TestNothingPanics (R1): arguments of all sorts and sizes, and types of any size in functions.
func TestNothingPanics(t *testing.T) {
	exprs := []api.Expr{{}, {Kind: -1}, {Kind: 1 << 62, Parts: make([]api.Expr, 7)}, function("", "")}
	for _, e := range great() {
		exprs = append(exprs, e)
	}
	for _, great := range []api.Type{ringType(), longType(), sharedType()} {
		e := needy()
		e.Type, e.Give = great, great
		exprs = append(exprs, e, function("g", "m", e))
	}
	for _, e := range exprs {
		for i, scope := range [][]string{nil, {}, {""}, {"a", "\xff", "a"}} {
			callAll(scope, []string{"a", ""}[i%2], e)
		}
	}
}

// TestGreatTypes (R1, R5): functions whose types are of any size are told with them as they are, in memory of their own.
func TestGreatTypes(t *testing.T) {
	for _, great := range []api.Type{ringType(), sharedType()} {
		e := needy()
		e.Type, e.Give = great, great
		got := free.Table("a", function("g", "m", e))
		if len(got) != 2 {
			t.Fatal(len(got))
		}
		for _, f := range []api.Expr{got[0].Fun.Parts[0], got[1].Fun} {
			for _, u := range []api.Type{f.Type, f.Give} {
				for want := great; len(want.Parts) > 0; u, want = u.Parts[0], want.Parts[0] {
					if u.Kind != want.Kind || len(u.Parts) != len(want.Parts) || &u.Parts[0] == &want.Parts[0] {
						t.Fatal("another type, or its memory")
					}
					if u.Parts[0].Kind == api.Pair && &u.Parts[0] == &u.Parts[0].Parts[0] {
						break
					}
				}
			}
		}
	}
}

// TestManyNames (R1): with scopes of very many names, and expressions of as many as there may be, it is soon over.
func TestManyNames(t *testing.T) {
	scope := make([]string, 1_000_000)
	for i := range scope {
		scope[i] = "n" + strconv.Itoa(i)
	}
	var parts []api.Expr
	for i := range 1950 {
		parts = append(parts, name(scope[500*i]))
	}
	e := expr(api.ESeq, parts...)
	for range api.MaxNest - 2 {
		e = function("f", "n", e)
	}
	got := free.Captures(scope, e)
	if len(got) != 1950 || got[0] != "n0" || got[1949] != scope[500*1949] || !free.Closed(scope, e) || free.Closed(scope[:500*1949], e) {
		t.Error(len(got))
	}
	if table := free.Table("n0", e); len(table) != api.MaxNest-2 || !slices.Equal(table[27].Caps, []string{"n0"}) {
		t.Error(len(table))
	}
}

// room is a list with spare room in which something stands.
func room[T any](list []T, more T) []T {
	return append(append(make([]T, 0, len(list)+2), list...), more, more)[:len(list)]
}

func roomyType(t api.Type) api.Type {
	var parts []api.Type
	for _, part := range t.Parts {
		parts = append(parts, roomyType(part))
	}
	t.Parts = room(parts, api.Type{Kind: api.Bool})
	return t
}

func roomyExpr(e api.Expr) api.Expr {
	e.Type, e.Give = roomyType(e.Type), roomyType(e.Give)
	var parts []api.Expr
	for _, part := range e.Parts {
		parts = append(parts, roomyExpr(part))
	}
	e.Parts = room(parts, name("spare"))
	return e
}

// typed is e with types that have Parts, one and the same wherever they stand.
func typed(e api.Expr) api.Expr {
	inner := api.Type{Kind: api.Ref, Parts: []api.Type{{Kind: api.Int, Label: 1}}}
	t := api.Type{Kind: api.Pair, Parts: []api.Type{inner, inner}}
	e.Parts = slices.Clone(e.Parts)
	for i, part := range e.Parts {
		e.Parts[i] = typed(part)
	}
	e.Type, e.Give = t, t
	return e
}

// whole is v with all lists as long as their room, in memory of its own.
func whole(v reflect.Value) reflect.Value {
	made := reflect.New(v.Type()).Elem()
	switch v.Kind() {
	case reflect.Struct:
		for i := range v.NumField() {
			made.Field(i).Set(whole(v.Field(i)))
		}
	case reflect.Slice:
		made.Set(reflect.MakeSlice(v.Type(), v.Cap(), v.Cap()))
		for i := range v.Cap() {
			made.Index(i).Set(whole(v.Slice(0, v.Cap()).Index(i)))
		}
	default:
		made.Set(v)
	}
	return made
}

func wholes(all ...any) []any {
	var made []any
	for _, v := range all {
		made = append(made, whole(reflect.ValueOf(v)).Interface())
	}
	return made
}

// TestArgumentsAreLeft (R5): what is handed in is left as it is, its spare room too, and no answer hangs on that.
func TestArgumentsAreLeft(t *testing.T) {
	draw := rand.New(rand.NewSource(5))
	for n := range 2000 {
		d, e := drawn(draw, n%10)
		scope, n := d.scope(), d.name()
		roomyScope, roomy := room(scope, "x"), roomyExpr(typed(e))
		before := wholes(roomyScope, roomy)
		got := callAll(roomyScope, n, roomy)
		if !reflect.DeepEqual(before, wholes(roomyScope, roomy)) {
			t.Fatalf("%q, %+v was changed", scope, e)
		}
		if !got.same(callAll(slices.Clip(scope), n, typed(e))) {
			t.Fatalf("%q, %+v: an answer hangs on spare room", scope, e)
		}
	}
}

// places adds where the members of all lists of v stand, spare room too, to those that are known, and tells whether they were unknown.
func places(v reflect.Value, known map[uintptr]reflect.Type) bool {
	switch v.Kind() {
	case reflect.Struct:
		for i := range v.NumField() {
			if !places(v.Field(i), known) {
				return false
			}
		}
	case reflect.Slice:
		v = v.Slice(0, v.Cap())
		for i := range v.Len() {
			at := v.Index(i).UnsafeAddr()
			if known[at] != nil {
				return false
			}
			known[at] = v.Type()
			if !places(v.Index(i), known) {
				return false
			}
		}
	}
	return true
}

// meets tells whether a member of a list of v stands where something is known to stand.
func meets(v reflect.Value, known map[uintptr]reflect.Type) bool {
	switch v.Kind() {
	case reflect.Struct:
		for i := range v.NumField() {
			if meets(v.Field(i), known) {
				return true
			}
		}
	case reflect.Slice:
		v = v.Slice(0, v.Cap())
		for i := range v.Len() {
			if known[v.Index(i).UnsafeAddr()] != nil || meets(v.Index(i), known) {
				return true
			}
		}
	}
	return false
}

// TestNewMemory (R5): answers share no memory with what was handed in, within themselves, or with later ones. The arguments' types do share some.
func TestNewMemory(t *testing.T) {
	draw := rand.New(rand.NewSource(55))
	functions := 0
	for n := range 1000 {
		d, e := drawn(draw, n%8)
		scope, n := room(d.scope(), "x"), d.name()
		e = typed(e)
		known := map[uintptr]reflect.Type{}
		for range 2 {
			if !places(reflect.ValueOf(callAll(scope, n, e)), known) {
				t.Fatalf("%q, %+v: memory is shared", scope, e)
			}
		}
		if meets(reflect.ValueOf(scope), known) || meets(reflect.ValueOf(e), known) {
			t.Fatalf("%q, %+v: memory is kept", scope, e)
		}
		functions += len(free.Table(n, e))
	}
	if functions < 300 {
		t.Error("too few functions:", functions)
	}
}
