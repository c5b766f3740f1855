package free_test

import (
	"slices"
	"strings"
	"testing"

	"palisade/api"
	"palisade/free"
	"palisade/syntax"
)

// head is what stands ahead of the Body in all texts.
const head = "lattice { low } main(x: int@low): int@low ! none = "

// sign is what stands in a text for the types and bounds of a function of an int.
const sign = ": int@low): int@low ! low, none =>"

// body is an expression, from its text. A function is written shortly there: fun f(n) e.
func body(t *testing.T, text string) api.Expr {
	t.Helper()
	var whole strings.Builder
	for i, piece := range strings.Split(text, "fun ") {
		if i > 0 {
			n := strings.Index(piece, ")")
			piece = "fun " + piece[:n] + sign + piece[n+1:]
		}
		whole.WriteString(piece)
	}
	p, _, e := syntax.Parse(head + whole.String())
	if e != api.OK {
		t.Fatal("no expression:", text, e)
	}
	return p.Body
}

func name(text string) api.Expr {
	return api.Expr{Kind: api.EVar, Text: text}
}

func number(n int64) api.Expr {
	return api.Expr{Kind: api.EInt, N: n}
}

func expr(kind int, parts ...api.Expr) api.Expr {
	return api.Expr{Kind: kind, Parts: parts}
}

// binder is an expression of that Kind that has a name.
func binder(kind int, text string, parts ...api.Expr) api.Expr {
	return api.Expr{Kind: kind, Text: text, Parts: parts}
}

func function(text, arg string, parts ...api.Expr) api.Expr {
	return api.Expr{Kind: api.EFun, Text: text, Arg: arg, Parts: parts}
}

func names(texts ...string) []api.Expr {
	var made []api.Expr
	for _, text := range texts {
		made = append(made, name(text))
	}
	return made
}

// words are the words of a text, a dash being the empty name.
func words(text string) []string {
	list := strings.Fields(text)
	for i, word := range list {
		if word == "-" {
			list[i] = ""
		}
	}
	return list
}

// wantNames holds Names, and Stands with it, against a list.
func wantNames(t *testing.T, e api.Expr, want string) {
	t.Helper()
	if got := free.Names(e); !slices.Equal(got, words(want)) {
		t.Errorf("%v: %q; want %q", e, got, words(want))
	}
	for _, n := range []string{"", "a", "b", "c", "e", "f", "g", "n", "m", "x", "y", "z", "yy"} {
		if got := free.Stands(e, n); got != slices.Contains(words(want), n) {
			t.Errorf("%v: %q stands: %v", e, n, got)
		}
	}
}

func wantCaptures(t *testing.T, scope string, f api.Expr, want string) {
	t.Helper()
	if got := free.Captures(words(scope), f); !slices.Equal(got, words(want)) {
		t.Errorf("of %q %v captures %q; want %q", scope, f, got, words(want))
	}
}

// wantTable holds a table against lines: the function's name, then what it captures.
func wantTable(t *testing.T, arg string, e api.Expr, want ...string) {
	t.Helper()
	got := free.Table(arg, e)
	if len(got) != len(want) {
		t.Fatalf("%v: %v; want %v", e, got, want)
	}
	for i, entry := range got {
		line := words(want[i])
		if entry.Fun.Kind != api.EFun || entry.Fun.Text != line[0] || !slices.Equal(entry.Caps, line[1:]) {
			t.Errorf("%v: the function %d is %v, %q; want %q", e, i+1, entry.Fun, entry.Caps, line)
		}
	}
}
