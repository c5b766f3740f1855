package free_test

import (
	"cmp"
	"math/rand"
	"slices"
	"testing"

	"palisade/api"
	"palisade/free"
	"palisade/syntax"
)

// free names by the chapter's words: what is free in each Part, from below, and but for what is hidden there.
func freeIn(e api.Expr) []string {
	var found []string
	if e.Kind == api.EVar {
		found = []string{e.Text}
	}
	for i, part := range e.Parts {
		for _, n := range freeIn(part) {
			hidden := e.Kind == api.EFun && (n == e.Text || n == e.Arg) || (e.Kind == api.ELet || e.Kind == api.ETry) && i >= 1 && n == e.Text
			if !hidden && !slices.Contains(found, n) {
				found = append(found, n)
			}
		}
	}
	return found
}

// capturedOf is those of the names that stand in the scope, by the places of the last ones there.
func capturedOf(scope []string, f api.Expr) []string {
	last := map[string]int{}
	for i, n := range scope {
		last[n] = i + 1
	}
	var found []string
	for _, n := range freeIn(f) {
		if last[n] > 0 {
			found = append(found, n)
		}
	}
	slices.SortFunc(found, func(a, b string) int { return cmp.Compare(last[a], last[b]) })
	return found
}

// function and its scope, in a place of a body.
type placed struct {
	fun   api.Expr
	scope []string
}

// functionsOf are e's functions with their scopes: itself ahead, then those of its Parts.
func functionsOf(scope []string, e api.Expr) []placed {
	var all []placed
	if e.Kind == api.EFun {
		all = append(all, placed{e, scope})
	}
	for i, part := range e.Parts {
		within := slices.Clone(scope)
		if e.Kind == api.EFun {
			within = append(capturedOf(scope, e), e.Text, e.Arg)
		}
		if (e.Kind == api.ELet || e.Kind == api.ETry) && i >= 1 {
			within = append(within, e.Text)
		}
		all = append(all, functionsOf(within, part)...)
	}
	return all
}

// drawer draws expressions of few names, in which many are hidden.
type drawer struct {
	*rand.Rand
	formed bool
}

func (d drawer) name() string {
	all := []string{"x", "y", "z", "f", "g", ""}
	if d.formed {
		all = all[:5]
	}
	return all[d.Intn(len(all))]
}

// arity is how many Parts one of a Kind has, if it is formed.
func arity(kind int) int {
	switch kind {
	case api.EInt, api.EBool, api.EVar:
		return 0
	case api.ELet, api.ECall, api.EPair, api.ESet, api.ETry, api.ESeq, api.EBin:
		return 2
	case api.EIf:
		return 3
	}
	return 1
}

func (d drawer) expr(deep int) api.Expr {
	kind := []int{api.ELet, api.EFun, api.ETry, 1 + d.Intn(api.ENot)}[d.Intn(4)]
	if deep == 1 {
		kind = []int{api.EVar, api.EVar, api.EVar, api.EInt}[d.Intn(4)]
	}
	wide := arity(kind)
	e := api.Expr{Kind: kind}
	if !d.formed && d.Intn(3) == 0 {
		e.Kind, wide, e.Text, e.Arg = d.Intn(22)-1, d.Intn(5), d.name(), d.name()
	}
	switch e.Kind {
	case api.EFun:
		e.Arg, e.Type, e.Give = d.name(), api.Type{Kind: api.Int}, api.Type{Kind: api.Int}
		e.Text = d.name()
	case api.ELet, api.ETry, api.EVar:
		e.Text = d.name()
	case api.ENew, api.ERaise:
		e.Type = api.Type{Kind: api.Bool}
	case api.EBin:
		e.N = api.OpAdd
	}
	for range wide {
		if deep > 1 {
			e.Parts = append(e.Parts, d.expr(deep-1))
		}
	}
	return e
}

func (d drawer) scope() []string {
	var scope []string
	for range d.Intn(9) {
		scope = append(scope, d.name())
	}
	return scope
}

// drawn is an expression, formed or not, of at most MaxTokens nodes.
func drawn(draw *rand.Rand, n int) (drawer, api.Expr) {
	d := drawer{draw, n%2 == 0}
	for {
		e := d.expr(1 + n/2%6)
		if size(e) <= api.MaxTokens {
			return d, e
		}
	}
}

// TestDrawn (P8.1, P8.2, P8.3): drawn expressions and scopes, against the reference.
func TestDrawn(t *testing.T) {
	draw := rand.New(rand.NewSource(8))
	closed, functions := 0, 0
	for n := range 20000 {
		d, e := drawn(draw, n)
		want, scope := freeIn(e), d.scope()
		if got := free.Names(e); !slices.Equal(got, want) {
			t.Fatalf("%+v: %q; want %q", e, got, want)
		}
		n := d.name()
		if free.Stands(e, n) != slices.Contains(want, n) {
			t.Fatalf("%+v: %q", e, n)
		}
		if got := free.Captures(scope, e); !slices.Equal(got, capturedOf(scope, e)) {
			t.Fatalf("%q: %+v: %q", scope, e, got)
		}
		all := len(capturedOf(scope, e)) == len(want)
		if free.Closed(scope, e) != all {
			t.Fatalf("%q: %+v: closed: %v", scope, e, !all)
		}
		if all {
			closed++
		}
		functions += wantDrawnTable(t, d.name(), e)
	}
	if closed < 3000 || functions < 20000 {
		t.Error("too few:", closed, functions)
	}
}

// wantDrawnTable holds a table against the reference, and tells how many functions it has.
func wantDrawnTable(t *testing.T, arg string, e api.Expr) int {
	t.Helper()
	got, want := free.Table(arg, e), functionsOf([]string{arg}, e)
	if len(got) != len(want) {
		t.Fatalf("%+v: %d functions; want %d", e, len(got), len(want))
	}
	for i, entry := range got {
		if caps := capturedOf(want[i].scope, want[i].fun); !syntax.Same(entry.Fun, want[i].fun) || !slices.Equal(entry.Caps, caps) {
			t.Fatalf("%+v: function %d: %+v; want %+v, %q", e, i+1, entry, want[i].fun, caps)
		}
	}
	return len(got)
}
