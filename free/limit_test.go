package free_test

import (
	"slices"
	"testing"

	"palisade/api"
	"palisade/free"
)

// wantNothing holds all five calls to what is told of an expression that is too great, in which a would be free and f a function.
func wantNothing(t *testing.T, e api.Expr) {
	t.Helper()
	if got := free.Names(e); len(got) > 0 {
		t.Error("names:", got)
	}
	if got := free.Captures([]string{"a", "x"}, e); len(got) > 0 {
		t.Error("captured:", got)
	}
	if got := free.Table("a", e); len(got) > 0 {
		t.Error("functions:", len(got))
	}
	if free.Stands(e, "a") || free.Stands(e, "") {
		t.Error("something stands")
	}
	if free.Closed([]string{"a", "x"}, e) || free.Closed(nil, e) {
		t.Error("it is closed")
	}
}

// wantAll holds them to what is told of an expression that isn't, in which just a is free, and f the one function, that captures a.
func wantAll(t *testing.T, e api.Expr) {
	t.Helper()
	if got := free.Names(e); !slices.Equal(got, []string{"a"}) {
		t.Error("names:", got)
	}
	if got := free.Captures([]string{"a", "x"}, e); !slices.Equal(got, []string{"a"}) {
		t.Error("captured:", got)
	}
	if got := free.Table("a", e); len(got) != 1 || got[0].Fun.Text != "f" || !slices.Equal(got[0].Caps, []string{"a"}) {
		t.Error("functions:", got)
	}
	if !free.Stands(e, "a") || free.Stands(e, "") {
		t.Error("a doesn't stand, or something else does")
	}
	if !free.Closed([]string{"a", "x"}, e) || free.Closed([]string{"x"}, e) {
		t.Error("closed")
	}
}

// needy is the function f, of two nodes and two deep, which needs a.
func needy() api.Expr {
	return function("f", "n", name("a"))
}

// wide has so many nodes.
func wide(nodes int) api.Expr {
	parts := make([]api.Expr, nodes-3)
	for i := range parts {
		parts[i] = number(1)
	}
	return expr(api.ESeq, append(parts, needy())...)
}

// numbers is a tree of so many nodes.
func numbers(nodes int) api.Expr {
	switch nodes {
	case 1:
		return number(1)
	case 2:
		return expr(api.ENot, number(1))
	}
	return expr(api.EPair, numbers((nodes-1)/2), numbers(nodes-1-(nodes-1)/2))
}

// size is how many nodes e has.
func size(e api.Expr) int {
	n := 1
	for _, part := range e.Parts {
		n += size(part)
	}
	return n
}

// deep nests so deep.
func deep(levels int) api.Expr {
	e := needy()
	for range levels - 2 {
		e = expr(api.ENot, e)
	}
	return e
}

// TestNodes (P8.3): MaxTokens nodes, and one more.
func TestNodes(t *testing.T) {
	wantAll(t, wide(api.MaxTokens))
	wantNothing(t, wide(api.MaxTokens+1))
	tree := func(nodes int) api.Expr { return expr(api.EPair, numbers(nodes-3), needy()) }
	if size(tree(api.MaxTokens)) != api.MaxTokens {
		t.Fatal("nodes:", size(tree(api.MaxTokens)))
	}
	wantAll(t, tree(api.MaxTokens))
	wantNothing(t, tree(api.MaxTokens+1))
	// Those of a function's Part count, and those behind the Parts that a Kind has.
	wantAll(t, function("f", "n", expr(api.ESeq, numbers(api.MaxTokens-3), name("a"))))
	wantNothing(t, function("f", "n", expr(api.ESeq, numbers(api.MaxTokens-2), name("a"))))
	wantAll(t, binder(api.EVar, "a", numbers(api.MaxTokens-3), needy()))
	wantNothing(t, binder(api.EVar, "a", numbers(api.MaxTokens-2), needy()))
}

// TestNest (P8.3): nesting MaxNest deep, and one deeper.
func TestNest(t *testing.T) {
	wantAll(t, deep(api.MaxNest))
	wantNothing(t, deep(api.MaxNest+1))
	wantAll(t, expr(api.EPair, number(1), deep(api.MaxNest-1)))
	wantNothing(t, expr(api.EPair, number(1), deep(api.MaxNest)))
	wantNothing(t, expr(api.EPair, deep(api.MaxNest), number(1)))
	e := name("a")
	for range api.MaxNest - 1 {
		e = function("f", "n", e)
	}
	if got := free.Table("a", e); len(got) != api.MaxNest-1 || !slices.Equal(got[api.MaxNest-2].Caps, []string{"a"}) {
		t.Error(got)
	}
	wantNothing(t, function("f", "n", e))
}

// TestTypesDoNotCount (P8.3): what counts is the expression's nodes, not its types'.
func TestTypesDoNotCount(t *testing.T) {
	e := wide(api.MaxTokens)
	for i := range e.Parts {
		e.Parts[i].Type = api.Type{Parts: make([]api.Type, 5)}
	}
	wantAll(t, e)
	long := api.Type{}
	for range 3 * api.MaxNest {
		long = api.Type{Parts: []api.Type{long}}
	}
	e = deep(api.MaxNest)
	e.Type, e.Give = long, long
	wantAll(t, e)
}

// great are expressions of very many nodes: deep, wide, such as share memory, and rings.
func great() map[string]api.Expr {
	line, shared := needy(), needy()
	for range 1_000_000 {
		line = function("f", "n", line)
	}
	for range 20 {
		shared = binder(api.ELet, "y", shared, shared)
	}
	row := make([]api.Expr, 300_000)
	for i := range row {
		row[i] = needy()
	}
	ring := make([]api.Expr, 2)
	ring[0], ring[1] = function("f", "n", ring...), needy()
	ring[0].Parts = ring
	slow := make([]api.Expr, 3000)
	for i := range slow {
		slow[i] = binder(api.ETry, "e", slow[i+1:]...)
	}
	return map[string]api.Expr{"line": line, "shared": shared, "row": expr(api.ESeq, row...), "ring": ring[0], "in a ring": expr(api.ESeq, number(1), ring[0]), "lists": slow[0]}
}

// TestGreat (P8.3, R1): expressions of very many nodes have nothing, and that is soon told.
func TestGreat(t *testing.T) {
	for what, e := range great() {
		t.Run(what, func(t *testing.T) { wantNothing(t, e) })
	}
}
