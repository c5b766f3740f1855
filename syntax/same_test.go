package syntax_test

import (
	"math"
	"math/rand"
	"reflect"
	"testing"

	"palisade/api"
	"palisade/syntax"
)

// unlike are expressions each of which differs from e in one field.
func unlike(e api.Expr) []api.Expr {
	var all []api.Expr
	add := func(change func(e *api.Expr)) {
		other := plain(e, true)
		change(&other)
		all = append(all, other)
	}
	add(func(e *api.Expr) { e.Kind++ })
	add(func(e *api.Expr) { e.Kind = -e.Kind - 1 })
	add(func(e *api.Expr) { e.N++ })
	add(func(e *api.Expr) { e.N ^= math.MinInt64 })
	add(func(e *api.Expr) { e.N += 1 << 32 })
	add(func(e *api.Expr) { e.M-- })
	add(func(e *api.Expr) { e.M += 1 << 32 })
	add(func(e *api.Expr) { e.Text += "a" })
	add(func(e *api.Expr) { e.Text = "\x80" })
	add(func(e *api.Expr) { e.Arg += "a" })
	add(func(e *api.Expr) { e.Text, e.Arg = e.Arg+"b", e.Text+"b" })
	for _, field := range []func(e *api.Expr) *api.Type{func(e *api.Expr) *api.Type { return &e.Type }, func(e *api.Expr) *api.Type { return &e.Give }} {
		add(func(e *api.Expr) { field(e).Kind++ })
		add(func(e *api.Expr) { field(e).Label++ })
		add(func(e *api.Expr) { field(e).Heap++ })
		add(func(e *api.Expr) { field(e).Exc-- })
		add(func(e *api.Expr) { field(e).Parts = append(field(e).Parts, api.Type{}) })
	}
	add(func(e *api.Expr) { e.Parts = append(e.Parts, api.Expr{}) })
	if len(e.Parts) > 0 {
		add(func(e *api.Expr) { e.Parts = e.Parts[1:] })
		add(func(e *api.Expr) { e.Parts = e.Parts[:len(e.Parts)-1] })
	}
	return all
}

// TestSame (P6.3): each field counts, but for places.
func TestSame(t *testing.T) {
	all := append(each(name("a"), function("f", "v", refOf(0, integer(1)), pairOf(1, integer(0), boolean(0)), 0, 1, number(3)), truth(1)), api.Expr{}, expr(99, number(-1)), expr(api.EInt, number(1), number(2)))
	for i, a := range all {
		apart := moved(a)
		apart.At = -1
		empty := a
		if len(a.Parts) == 0 {
			empty.Parts = []api.Expr{}
		}
		if !syntax.Same(a, a) || !syntax.Same(a, apart) || !syntax.Same(apart, a) || !syntax.Same(a, empty) || !syntax.Same(empty, a) {
			t.Errorf("%+v isn't as it is", a)
		}
		for j, b := range all {
			if syntax.Same(a, b) != (i == j) {
				t.Errorf("Same(%+v, %+v) isn't %v", a, b, i == j)
			}
		}
		for _, b := range unlike(a) {
			x, y := inner(a).Body, inner(b).Body
			if syntax.Same(a, b) || syntax.Same(b, a) || syntax.Same(x, y) || syntax.Same(y, x) || !syntax.Same(b, b) || !syntax.Same(y, moved(y)) {
				t.Errorf("Same(%+v, %+v)", a, b)
			}
		}
	}
}

// TestSameDrawn (P6.3): drawn expressions, by what they are if their places are taken away.
func TestSameDrawn(t *testing.T) {
	draw := rand.New(rand.NewSource(63))
	alike := 0
	for range 12000 {
		a, b := drawnExpr(draw, single(), 2), drawnExpr(draw, single(), 2)
		a.At, b.At = draw.Intn(3), draw.Intn(3)
		want := reflect.DeepEqual(plain(a, false), plain(b, false))
		if syntax.Same(a, b) != want {
			t.Fatalf("Same(%+v, %+v) isn't %v", a, b, want)
		}
		if want {
			alike++
		}
	}
	if alike < 5 {
		t.Error(alike)
	}
}

// refNest is how deep an expression of few nodes nests.
func refNest(e api.Expr) int {
	deepest := 0
	for _, part := range e.Parts {
		deepest = max(deepest, refNest(part))
	}
	return deepest + 1
}

// TestNest (P6.3): an expression without Parts, each Kind, the limit and what is deeper; formed or not.
func TestNest(t *testing.T) {
	for deep, want := range map[int]int{1: 1, 2: 2, 29: 29, 30: 30, 31: 31, 32: 31, 33: 31, 5000: 31} {
		if got := syntax.Nest(nots(deep)); got != want {
			t.Errorf("%d deep: %d", deep, got)
		}
		if got := syntax.Nest(expr(0, number(1), api.Expr{}, nots(deep), number(1))); got != min(want+1, 31) {
			t.Errorf("%d deep in another: %d", deep, got)
		}
	}
	for _, e := range each(nots(3), nots(2), nots(1)) {
		want := 4
		if e.Kind <= api.EVar {
			want = 1
		}
		if got := syntax.Nest(e); got != want {
			t.Errorf("%+v: %d", e, got)
		}
	}
	for _, e := range each(nots(1), nots(2), nots(7)) {
		if got := syntax.Nest(e); got != refNest(e) {
			t.Errorf("%+v: %d", e, got)
		}
	}
	if syntax.Nest(api.Expr{}) != 1 || syntax.Nest(api.Expr{Parts: []api.Expr{}}) != 1 || syntax.Nest(balanced(1023)) != refNest(balanced(1023)) {
		t.Error("no Parts, or many")
	}
}

// TestNestDrawn (P6.3): drawn expressions.
func TestNestDrawn(t *testing.T) {
	draw := rand.New(rand.NewSource(36))
	for n := range 2000 {
		e := drawnExpr(draw, chain(), 1+n%8)
		if syntax.Nest(e) != refNest(e) {
			t.Fatalf("%+v", e)
		}
	}
}
