package syntax_test

import (
	"math"
	"math/rand"
	"slices"
	"strings"
	"testing"

	"palisade/api"
	"palisade/lex"
	"palisade/syntax"
)

// fields are what an expression of a Kind has, by api's words; all others are zero.
type fields struct {
	parts                 int
	n, m                  func(l api.Lattice, n int64) bool
	text, arg, typ, gives bool
}

func isZero(_ api.Lattice, n int64) bool   { return n == 0 }
func isNumber(_ api.Lattice, n int64) bool { return n >= 0 }
func isTruth(_ api.Lattice, n int64) bool  { return n == 0 || n == 1 }
func isOp(_ api.Lattice, n int64) bool     { return n >= 6 && n <= 12 }
func isLabel(l api.Lattice, n int64) bool  { return n >= 0 && n < int64(len(l.Names)) }
func isExc(l api.Lattice, n int64) bool    { return n == -1 || isLabel(l, n) }

func fieldsOf() map[int]fields {
	return map[int]fields{
		api.EInt: {n: isNumber, m: isZero}, api.EBool: {n: isTruth, m: isZero}, api.EVar: {n: isZero, m: isZero, text: true},
		api.ELet: {parts: 2, n: isZero, m: isZero, text: true}, api.EIf: {parts: 3, n: isZero, m: isZero},
		api.EFun:  {parts: 1, n: isLabel, m: isExc, text: true, arg: true, typ: true, gives: true},
		api.ECall: {parts: 2, n: isZero, m: isZero}, api.EPair: {parts: 2, n: isZero, m: isZero},
		api.EFirst: {parts: 1, n: isZero, m: isZero}, api.ESecond: {parts: 1, n: isZero, m: isZero},
		api.ENew: {parts: 1, n: isZero, m: isZero, typ: true}, api.EGet: {parts: 1, n: isZero, m: isZero}, api.ESet: {parts: 2, n: isZero, m: isZero},
		api.EOut: {parts: 1, n: isLabel, m: isZero}, api.ERaise: {parts: 1, n: isZero, m: isZero, typ: true},
		api.ETry: {parts: 2, n: isZero, m: isZero, text: true}, api.ESeq: {parts: 2, n: isZero, m: isZero},
		api.EBin: {parts: 2, n: isOp, m: isZero}, api.ENot: {parts: 1, n: isZero, m: isZero},
	}
}

// someNames are such as are names, and such as aren't.
func someNames() map[string]bool {
	return map[string]bool{"": false, "v": true, "f": true, "let": false, "lets": true, "none": false, "1v": false, "v ": false, "é": false, "ω9": true, strings.Repeat("α", 16): true, strings.Repeat("a", 17): false, "v\x80": false}
}

// someTypes are such as are formed over low and high, and such as aren't; the first two are zero.
func someTypes() ([]api.Type, func(i int) bool) {
	all := []api.Type{
		{}, {Parts: []api.Type{}},
		{Label: 1}, {Exc: api.None}, {Heap: 1}, {Parts: []api.Type{{}}}, {Kind: 6}, integer(2), integer(-1), {Kind: api.Int, Heap: 1}, refs(7), pairOf(0, refs(6), integer(0)), funOf(0, integer(0), integer(0), 0, 2),
		integer(1), refs(6), funOf(1, integer(0), boolean(1), 1, api.None),
	}
	return all, func(i int) bool { return i >= 13 }
}

// refNode tells whether one expression has what it must have, its Parts apart.
func refNode(l api.Lattice, e api.Expr, typ, gives int) bool {
	f, ok := fieldsOf()[e.Kind]
	_, formed := someTypes()
	name := func(s string, needed bool) bool { return needed && someNames()[s] || !needed && s == "" }
	kind := func(i int, needed bool) bool { return needed && formed(i) || !needed && i < 2 }
	return ok && len(e.Parts) == f.parts && f.n(l, e.N) && f.m(l, e.M) && name(e.Text, f.text) && name(e.Arg, f.arg) && kind(typ, f.typ) && kind(gives, f.gives)
}

// TestFormedNodes (P6.2): each Kind with each number of Parts, and fields that it has or hasn't, right and wrong, in all their rows.
func TestFormedNodes(t *testing.T) {
	types, _ := someTypes()
	l := chain()
	formed := 0
	for kind := 0; kind <= 20; kind++ {
		for _, n := range []int64{-1, 0, 1, 5, 6, 12, 13} {
			for _, m := range []int64{-2, -1, 0, 1, 2} {
				for _, text := range []string{"", "v", "let"} {
					for _, arg := range []string{"", "v", "in"} {
						for _, typ := range []int{0, 2, 13} {
							for _, gives := range []int{0, 5, 14} {
								for parts := range 5 {
									e := api.Expr{Kind: kind, N: n, M: m, Text: text, Arg: arg, Type: types[typ], Give: types[gives], At: -7, Parts: slices.Repeat([]api.Expr{number(1)}, parts)}
									want := refNode(l, e, typ, gives)
									if syntax.Formed(program(e)) != want {
										t.Fatalf("Formed of %+v isn't %v", e, want)
									}
									if want {
										formed++
									}
								}
							}
						}
					}
				}
			}
		}
	}
	if formed != 32 {
		t.Error(formed)
	}
}

// inner is a program in which the expression stands deep inside another.
func inner(e api.Expr) api.Program {
	return program(named(api.ELet, "v", number(1), expr(api.EIf, truth(1), expr(api.EPair, name("x"), expr(api.ENot, e)), number(2))))
}

// TestFormedFields (P6.2): each field of each Kind, one at a time, with all that it may and may not be, at the beginning and deep inside.
func TestFormedFields(t *testing.T) {
	types, _ := someTypes()
	l := chain()
	for _, base := range each(name("a"), number(1), truth(0)) {
		right := len(types) - 1
		typ, gives := 0, 0
		if fieldsOf()[base.Kind].typ {
			typ, base.Type = right, types[right]
		}
		if fieldsOf()[base.Kind].gives {
			gives, base.Give = right, types[right]
		}
		agree := func(e api.Expr, typ, gives int) {
			t.Helper()
			want := refNode(l, e, typ, gives)
			if syntax.Formed(program(e)) != want || syntax.Formed(inner(e)) != want {
				t.Errorf("Formed of %+v isn't %v", e, want)
			}
		}
		agree(base, typ, gives)
		if !refNode(l, base, typ, gives) {
			t.Fatal(base)
		}
		for _, n := range []int64{math.MinInt64, -2, -1, 0, 1, 2, 3, 5, 6, 7, 11, 12, 13, 1 << 32, 1<<32 + 1, math.MaxInt64} {
			e := base
			e.N = n
			agree(e, typ, gives)
			e = base
			e.M = n
			agree(e, typ, gives)
		}
		for s := range someNames() {
			e := base
			e.Text = s
			agree(e, typ, gives)
			e = base
			e.Arg = s
			agree(e, typ, gives)
		}
		for i, u := range types {
			e := base
			e.Type = u
			agree(e, i, gives)
			e = base
			e.Give = u
			agree(e, typ, i)
		}
		for i := range base.Parts {
			e := base
			e.Parts = slices.Clone(base.Parts)
			e.Parts[i] = expr(api.ENot)
			if syntax.Formed(program(e)) || syntax.Formed(inner(e)) {
				t.Errorf("%+v is formed", e)
			}
		}
		base.At = math.MinInt
		agree(base, typ, gives)
	}
}

// TestFormedPrograms (P6.2): the lattice, the names, the types and the exc of a program.
func TestFormedPrograms(t *testing.T) {
	types, formed := someTypes()
	check := func(want bool, change func(p *api.Program)) {
		t.Helper()
		p := program(name("x"))
		change(&p)
		if syntax.Formed(p) != want {
			t.Errorf("Formed of %+v isn't %v", p, want)
		}
		if s, e := syntax.Print(p); (e == api.OK) != want || !want && (s != "" || e != api.ErrForm) {
			t.Errorf("Print of %+v: %q, %v", p, s, e)
		}
	}
	check(true, func(p *api.Program) {})
	for s, want := range someNames() {
		check(want, func(p *api.Program) { p.Arg = s })
	}
	for i, u := range types {
		check(formed(i), func(p *api.Program) { p.Param = u })
		check(formed(i), func(p *api.Program) { p.Result = u })
	}
	for exc, want := range map[int]bool{-2: false, -1: true, 0: true, 1: true, 2: false, 1 << 32: false, math.MinInt: false, math.MaxInt: false} {
		check(want, func(p *api.Program) { p.Exc = exc })
	}
	for _, k := range lex.Words() {
		check(false, func(p *api.Program) { p.Arg = k })
		check(false, func(p *api.Program) { p.Body = name(k) })
		check(false, func(p *api.Program) { p.Body = named(api.ETry, k, number(1), number(1)) })
	}
	check(false, func(p *api.Program) { p.Lattice = api.Lattice{} })
	check(false, func(p *api.Program) { p.Lattice.Order[0][1] = false })
	check(false, func(p *api.Program) { p.Lattice.Names[1] = "low" })
	check(false, func(p *api.Program) { p.Lattice.Names[1] = "" })
	check(false, func(p *api.Program) { p.Lattice.Order = p.Lattice.Order[:1] })
	check(false, func(p *api.Program) { p.Lattice = single() })
	check(false, func(p *api.Program) { *p = api.Program{} })
	check(false, func(p *api.Program) { p.Body = api.Expr{} })
	check(true, func(p *api.Program) { p.Lattice = cube(); p.Exc = 7 })
	check(false, func(p *api.Program) { p.Lattice = cube(); p.Exc = 8 })
}

// TestFormedLimits (P6.2): how deep a Body nests, and how many nodes it has.
func TestFormedLimits(t *testing.T) {
	for deep, want := range map[int]bool{1: true, api.MaxNest: true, api.MaxNest + 1: false, api.MaxNest + 2: false, 1000: false} {
		if syntax.Formed(program(nots(deep))) != want {
			t.Errorf("%d deep", deep)
		}
	}
	for nodes, want := range map[int]bool{1: true, 1999: true, 2001: false, 3001: false} {
		if e := balanced(nodes); syntax.Formed(program(e)) != want {
			t.Errorf("%d nodes", nodes)
		}
	}
	// One node more or less ahead of, or behind, an odd number of them.
	if !syntax.Formed(program(expr(api.ENot, balanced(1999)))) || syntax.Formed(program(expr(api.EPair, balanced(1999), number(1)))) || syntax.Formed(program(expr(api.EPair, number(1), balanced(1999)))) {
		t.Error("2000 nodes and 2001")
	}
	if !syntax.Formed(program(expr(api.EPair, expr(api.ENot, balanced(1)), balanced(1997)))) {
		t.Error("2000 nodes in two Parts")
	}
}

// TestDrawnFormed (P6.2): drawn programs are formed, and a change of one node that isn't allowed is seen wherever it is.
func TestDrawnFormed(t *testing.T) {
	draw := rand.New(rand.NewSource(62))
	for range 300 {
		p := drawnProgram(draw, 5)
		if !syntax.Formed(p) {
			t.Fatalf("%+v", p)
		}
		var visit func(e *api.Expr)
		visit = func(e *api.Expr) {
			kept := *e
			e.M = 99
			if syntax.Formed(p) {
				t.Fatalf("%+v", p)
			}
			*e = kept
			for i := range e.Parts {
				visit(&e.Parts[i])
			}
		}
		visit(&p.Body)
	}
}
