package syntax_test

import (
	"reflect"
	"slices"
	"strings"
	"testing"

	"palisade/api"
	"palisade/lattice"
	"palisade/lex"
	"palisade/syntax"
)

// head is what stands ahead of the Body in most texts: a lattice in which low is 0 and high is 1.
const head = "lattice { low, high, low < high } main(x: int@high): int@high ! none = "

func chain() api.Lattice {
	return made([]string{"low", "high"}, [2]int{0, 1})
}

// diamond has its labels neither rising nor falling: b is the top, d the bottom.
func diamond() api.Lattice {
	return made([]string{"a", "b", "c", "d"}, [2]int{3, 0}, [2]int{3, 2}, [2]int{0, 1}, [2]int{2, 1})
}

// cube is all sets of three things, by the numbers of their bits.
func cube() api.Lattice {
	var pairs [][2]int
	for a := range 8 {
		for b := range 8 {
			if a&b == a {
				pairs = append(pairs, [2]int{a, b})
			}
		}
	}
	return made(strings.Fields("s0 s1 s2 s3 s4 s5 s6 s7"), pairs...)
}

func single() api.Lattice {
	return made([]string{"α"})
}

func made(names []string, pairs ...[2]int) api.Lattice {
	l, e := lattice.Make(names, pairs)
	if e != api.OK {
		panic(e)
	}
	return l
}

func lattices() []api.Lattice {
	return []api.Lattice{chain(), diamond(), cube(), single()}
}

func integer(label int) api.Type {
	return api.Type{Kind: api.Int, Label: label}
}

func boolean(label int) api.Type {
	return api.Type{Kind: api.Bool, Label: label}
}

func pairOf(label int, s, t api.Type) api.Type {
	return api.Type{Kind: api.Pair, Label: label, Parts: []api.Type{s, t}}
}

func funOf(label int, s, t api.Type, heap, exc int) api.Type {
	return api.Type{Kind: api.Fun, Label: label, Parts: []api.Type{s, t}, Heap: heap, Exc: exc}
}

func refOf(label int, t api.Type) api.Type {
	return api.Type{Kind: api.Ref, Label: label, Parts: []api.Type{t}}
}

// refs is a type so deep, of Refs alone and an Int.
func refs(deep int) api.Type {
	t := integer(0)
	for range deep - 1 {
		t = refOf(0, t)
	}
	return t
}

// expr is an expression at the place 0.
func expr(kind int, parts ...api.Expr) api.Expr {
	return api.Expr{Kind: kind, Parts: parts}
}

func number(n int64) api.Expr {
	return api.Expr{Kind: api.EInt, N: n}
}

func truth(n int64) api.Expr {
	return api.Expr{Kind: api.EBool, N: n}
}

func name(text string) api.Expr {
	return api.Expr{Kind: api.EVar, Text: text}
}

// named is an ELet or an ETry.
func named(kind int, text string, first, second api.Expr) api.Expr {
	return api.Expr{Kind: kind, Text: text, Parts: []api.Expr{first, second}}
}

func function(text, arg string, taken, given api.Type, heap, exc int64, part api.Expr) api.Expr {
	return api.Expr{Kind: api.EFun, Text: text, Arg: arg, Type: taken, Give: given, N: heap, M: exc, Parts: []api.Expr{part}}
}

// typed is an ENew or an ERaise.
func typed(kind int, t api.Type, part api.Expr) api.Expr {
	return api.Expr{Kind: kind, Type: t, Parts: []api.Expr{part}}
}

func out(label int64, part api.Expr) api.Expr {
	return api.Expr{Kind: api.EOut, N: label, Parts: []api.Expr{part}}
}

func bin(op int64, first, second api.Expr) api.Expr {
	return api.Expr{Kind: api.EBin, N: op, Parts: []api.Expr{first, second}}
}

// at is e at that place.
func at(place int, e api.Expr) api.Expr {
	e.At = place
	return e
}

// each is one expression of each Kind, of a and b and c.
func each(a, b, c api.Expr) []api.Expr {
	return []api.Expr{
		number(7), truth(1), name("v"),
		named(api.ELet, "v", a, b), expr(api.EIf, a, b, c), function("f", "v", integer(0), boolean(1), 1, api.None, a),
		expr(api.ECall, a, b), expr(api.EPair, a, b), expr(api.EFirst, a), expr(api.ESecond, a),
		typed(api.ENew, refOf(1, integer(0)), a), expr(api.EGet, a), expr(api.ESet, a, b), out(1, a), typed(api.ERaise, integer(1), a),
		named(api.ETry, "v", a, b), expr(api.ESeq, a, b), bin(api.OpMul, a, b), expr(api.ENot, a),
	}
}

// program is one of that Body, over low and high.
func program(body api.Expr) api.Program {
	return api.Program{Lattice: chain(), Arg: "x", Param: integer(1), Result: integer(1), Exc: api.None, Body: body}
}

// nots is an expression that nests so deep.
func nots(deep int) api.Expr {
	e := truth(0)
	for range deep - 1 {
		e = expr(api.ENot, e)
	}
	return e
}

// balanced is an expression of so many nodes, an odd number, no deeper than it must be.
func balanced(nodes int) api.Expr {
	if nodes == 1 {
		return number(1)
	}
	half := (nodes - 1) / 2
	if half%2 == 0 {
		half--
	}
	return bin(api.OpAdd, balanced(half), balanced(nodes-1-half))
}

// plain is e with nil for each list of no elements, and its places as they are or, if so asked, 0.
func plain(e api.Expr, places bool) api.Expr {
	if !places {
		e.At = 0
	}
	e.Type, e.Give = plainType(e.Type), plainType(e.Give)
	var parts []api.Expr
	for _, part := range e.Parts {
		parts = append(parts, plain(part, places))
	}
	e.Parts = parts
	return e
}

func plainType(t api.Type) api.Type {
	var parts []api.Type
	for _, part := range t.Parts {
		parts = append(parts, plainType(part))
	}
	t.Parts = parts
	return t
}

func plainProgram(p api.Program, places bool) api.Program {
	p.Param, p.Result, p.Body = plainType(p.Param), plainType(p.Result), plain(p.Body, places)
	return p
}

func sameProgram(p, q api.Program, places bool) bool {
	return reflect.DeepEqual(plainProgram(p, places), plainProgram(q, places))
}

// wants holds what is read, with all places, against that program.
func wants(t *testing.T, s string, want api.Program) {
	t.Helper()
	got, place, e := syntax.Parse(s)
	if e != api.OK || place != 0 || !sameProgram(got, want, true) {
		t.Errorf("Parse(%.400q) = %+v, %d, %v; want %+v", s, got, place, e, want)
	}
}

// wantsBody holds the Body that is read behind head against that one, whose places are from its beginning.
func wantsBody(t *testing.T, s string, want api.Expr) {
	t.Helper()
	got, place, e := syntax.Parse(head + s)
	if e != api.OK || place != 0 || !reflect.DeepEqual(plain(got.Body, true), plain(moved(want), true)) {
		t.Errorf("Parse(head + %q) = %+v, %d, %v; want %+v", s, got.Body, place, e, moved(want))
	}
}

// moved is e with its places behind head.
func moved(e api.Expr) api.Expr {
	e.At += len(head)
	parts := slices.Clone(e.Parts)
	for i := range parts {
		parts[i] = moved(parts[i])
	}
	e.Parts = parts
	return e
}

// refuses holds what is answered against an error and a place, beside which there is nothing.
func refuses(t *testing.T, s string, place int, want api.Errno) {
	t.Helper()
	got, at, e := syntax.Parse(s)
	if e != want || at != place || !reflect.DeepEqual(plainProgram(got, true), api.Program{}) {
		t.Errorf("Parse(%.400q) = %+v, %d, %v; want %d, %v", s, got, at, e, place, want)
	}
}

// refusesAt is refuses, the place being that where the mark ^ stands, which is taken out of s.
func refusesAt(t *testing.T, s string, want api.Errno) {
	t.Helper()
	ahead, behind, _ := strings.Cut(s, "^")
	refuses(t, ahead+behind, len(ahead), want)
}

// textsIn are the texts of the words of s.
func textsIn(t *testing.T, s string) []string {
	t.Helper()
	words, _, e := lex.Read(s)
	if e != api.OK {
		t.Fatal(s, e)
	}
	var texts []string
	for _, w := range words {
		texts = append(texts, w.Text)
	}
	return texts
}
