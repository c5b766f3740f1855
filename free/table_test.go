package free_test

import (
	"reflect"
	"testing"

	"palisade/api"
	"palisade/free"
	"palisade/syntax"
)

// TestTable (P8.2): functions beside one another and within one another, each ahead of those within it, with what it captures in its place.
func TestTable(t *testing.T) {
	for _, c := range []struct {
		text string
		want []string
	}{
		{"x + 1", nil},
		{"fun f(n) n", []string{"f"}},
		{"fun f(n) x", []string{"f x"}},
		{"fun f(n) z", []string{"f"}},
		{"(fun f(n) x) + (fun g(n) n) + (fun h(n) x)", []string{"f x", "g", "h x"}},
		{"if (fun f(n) n)(1) then fun g(n) x else fun h(n) z", []string{"f", "g x", "h"}},
		{"fun f(n) (fun g(m) x) + (fun h(m) n)", []string{"f x", "g x", "h n"}},
		{"(fun f(n) fun g(m) x) + (fun h(m) x)", []string{"f x", "g x", "h x"}},
		{"let y = 1 in fun f(n) (fun g(m) f(m) + y)(x); 2", []string{"f x y", "g y f"}},
		// The scope of what is within is what is captured, then both names.
		{"let y = 1 in fun f(n) fun g(m) x + y + f + n + g + m", []string{"f x y", "g x y f n"}},
		{"let y = 1 in let x = 2 in fun f(n) fun g(m) n + f + y + x", []string{"f y x", "g y x f n"}},
		{"fun f(n) fun g(m) fun h(k) k + m + n + f + x", []string{"f x", "g x f n", "h x f n m"}},
		// What isn't captured doesn't stand within.
		{"let y = 1 in fun f(n) let z = n in fun g(m) z", []string{"f", "g z"}},
		{"let f = 1 in fun g(n) f + (fun f(m) f + g + m)", []string{"g f", "f g"}},
		{"fun f(f) fun g(m) f", []string{"f", "g f"}},
		{"fun x(n) fun g(m) x + n", []string{"x", "g x n"}},
		{"fun f(x) fun g(m) x + f", []string{"f", "g f x"}},
	} {
		wantTable(t, "x", body(t, c.text), c.want...)
	}
}

// TestTableScope (P8.2): what an ELet and an ETry put into the scope, and where; names that stand there several times, and none.
func TestTableScope(t *testing.T) {
	for _, c := range []struct {
		text string
		want []string
	}{
		{"let y = fun f(n) x + y in fun g(n) y + x", []string{"f x", "g x y"}},
		{"let y = 1 in let z = 2 in fun f(n) z + y + x", []string{"f x y z"}},
		{"let y = 1 in let x = 2 in fun f(n) x + y", []string{"f y x"}},
		{"let y = 1 in let z = 2 in let y = 3 in fun f(n) x + y + z", []string{"f x z y"}},
		{"let x = x in let x = x in fun f(n) x", []string{"f x"}},
		{"(let y = 1 in y) + (fun f(n) y + x)", []string{"f x"}},
		{"try fun f(n) e + x with e => fun g(n) e + x end", []string{"f x", "g x e"}},
		{"try 1 with e => let y = e in fun g(n) y + e + x end", []string{"g x e y"}},
		{"try 1 with x => let e = x in fun g(n) e + x end", []string{"g x e"}},
		{"(try 1 with e => e end) + (fun g(n) e)", []string{"g"}},
	} {
		wantTable(t, "x", body(t, c.text), c.want...)
	}
	wantTable(t, "a", body(t, "fun f(n) x + a"), "f a")
	wantTable(t, "f", body(t, "fun f(n) f + (fun g(f) f)"), "f", "g")
	wantTable(t, "", body(t, "fun f(n) x"), "f")
}

// TestTableUnformed (P8.2, P8.3): an EVar with Parts; an ELet, an ETry and an EFun of any number of Parts; Kinds that are none; the empty name.
func TestTableUnformed(t *testing.T) {
	needs := func(text string) api.Expr { return function(text, "n", names("x", "a", "")...) }
	wantTable(t, "x", binder(api.EVar, "a", needs("f"), needs("g")), "f x", "g x")
	for _, kind := range []int{api.ELet, api.ETry} {
		wantTable(t, "x", binder(kind, "a"))
		wantTable(t, "x", binder(kind, "a", needs("f")), "f x")
		wantTable(t, "x", binder(kind, "a", needs("f"), needs("g"), needs("h"), needs("i")), "f x", "g x a", "h x a", "i x a")
		wantTable(t, "x", binder(kind, "", needs("f"), needs("g")), "f x", "g x -")
	}
	for _, kind := range []int{-1, 0, api.EInt, api.EIf, api.ENot, api.ENot + 1} {
		wantTable(t, "x", api.Expr{Kind: kind, Text: "a", Arg: "a", Parts: []api.Expr{needs("f"), needs("g"), needs("h"), needs("i")}}, "f x", "g x", "h x", "i x")
	}
	wantTable(t, "x", function("f", "a"), "f")
	wantTable(t, "x", function("f", "a", needs("g"), name("x"), needs("h")), "f x", "g x a", "h x a")
	wantTable(t, "x", function("", "a", needs("g")), "- x", "g x - a")
	wantTable(t, "", function("f", "b", needs("g"), needs("h")), "f -", "g -", "h -")
}

// TestTableFun (P8.2): each function as it stands in the body, its types and places too.
func TestTableFun(t *testing.T) {
	p, _, e := syntax.Parse("lattice { low, high, low < high } main(x: int@high): int@high ! none =\n" +
		"(fun f(n: (int@low, [int@low -> int@high ! low, high]@low)@low): ref(int@high)@high ! low, none => new[int@high] (fun g(m: int@low): int@high ! high, high => x + m)(fst n)); 1")
	if e != api.OK {
		t.Fatal(e)
	}
	f := p.Body.Parts[0]
	g := f.Parts[0].Parts[0].Parts[0]
	got := free.Table("x", p.Body)
	if len(got) != 2 || !reflect.DeepEqual(got[0].Fun, f) || !reflect.DeepEqual(got[1].Fun, g) {
		t.Error(got)
	}
	odd := function("f", "a", api.Expr{Kind: 77, N: 3, M: 4, Text: "t", Arg: "u", Type: api.Type{Kind: 9, Label: -3, Heap: 5, Exc: 6, Parts: make([]api.Type, 3)}, Give: api.Type{Label: 8}, At: -7})
	if got := free.Table("x", odd); len(got) != 1 || !reflect.DeepEqual(got[0].Fun, odd) {
		t.Error(got)
	}
}
