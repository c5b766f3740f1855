package syntax_test

import (
	"fmt"
	"math"
	"math/rand"
	"strings"
	"testing"

	"palisade/api"
	"palisade/lattice"
	"palisade/syntax"
)

// TestTypeText (P6.2): each form of a type, and types that aren't formed.
func TestTypeText(t *testing.T) {
	for want, u := range map[string]api.Type{
		"int@low": integer(0), "bool@high": boolean(1),
		"(int@low, bool@high)@low":                pairOf(0, integer(0), boolean(1)),
		"ref(int@high)@low":                       refOf(0, integer(1)),
		"[int@low -> bool@high ! high, none]@low": funOf(0, integer(0), boolean(1), 1, api.None),
		"[int@low -> bool@low ! low, high]@high":  funOf(1, integer(0), boolean(0), 0, 1),
		"ref((ref(bool@high)@low, [int@high -> (int@low, int@low)@low ! low, low]@low)@low)@high": refOf(1, pairOf(0, refOf(0, boolean(1)), funOf(0, integer(1), pairOf(0, integer(0), integer(0)), 0, 0))),
		deepType(6): refs(6),
	} {
		if got, e := syntax.Type(chain(), u); got != want || e != api.OK {
			t.Errorf("Type: %q, %v; want %q", got, e, want)
		}
	}
	all, formed := someTypes()
	for i, u := range all {
		if s, e := syntax.Type(chain(), u); (e == api.OK) != formed(i) || e != api.OK && (e != api.ErrForm || s != "") {
			t.Errorf("Type of %v: %q, %v", u, s, e)
		}
	}
	for _, l := range []api.Lattice{{}, {Names: []string{"low"}}, {Names: []string{"let", "1"}, Order: chain().Order}} {
		if s, e := syntax.Type(l, integer(0)); s != "" || e != api.ErrForm {
			t.Errorf("Type over %v: %q, %v", l, s, e)
		}
	}
	if s, e := syntax.Type(cube(), funOf(7, integer(5), boolean(3), 6, 4)); s != "[int@s5 -> bool@s3 ! s6, s4]@s7" || e != api.OK {
		t.Error(s, e)
	}
}

// TestBodyTexts (P6.2): each Kind, with Parts that have brackets and Parts that haven't.
func TestBodyTexts(t *testing.T) {
	sum := bin(api.OpAdd, name("a"), number(1))
	for want, e := range map[string]api.Expr{
		"0": number(0), "9223372036854775807": number(math.MaxInt64), "true": truth(1), "false": truth(0), "x": name("x"),
		"let v = a in b":                                      named(api.ELet, "v", name("a"), name("b")),
		"let v = (a + 1) in (a + 1)":                          named(api.ELet, "v", sum, sum),
		"if a then b else 1":                                  expr(api.EIf, name("a"), name("b"), number(1)),
		"if (a + 1) then (a + 1) else (a + 1)":                expr(api.EIf, sum, sum, sum),
		"fun f(v: int@low): bool@high ! high, none => a":      function("f", "v", integer(0), boolean(1), 1, api.None, name("a")),
		"fun f(v: int@low): bool@high ! low, high => (a + 1)": function("f", "v", integer(0), boolean(1), 0, 1, sum),
		"a(b)":                              expr(api.ECall, name("a"), name("b")),
		"(a + 1)(a + 1)":                    expr(api.ECall, sum, sum),
		"(a(b))(1)":                         expr(api.ECall, expr(api.ECall, name("a"), name("b")), number(1)),
		"(a, b)((1, 2))":                    expr(api.ECall, expr(api.EPair, name("a"), name("b")), expr(api.EPair, number(1), number(2))),
		"(a, b)":                            expr(api.EPair, name("a"), name("b")),
		"(a + 1, a + 1)":                    expr(api.EPair, sum, sum),
		"((a, b), (1, 2))":                  expr(api.EPair, expr(api.EPair, name("a"), name("b")), expr(api.EPair, number(1), number(2))),
		"(a ; b, a := b)":                   expr(api.EPair, expr(api.ESeq, name("a"), name("b")), expr(api.ESet, name("a"), name("b"))),
		"f(a ; b)":                          expr(api.ECall, name("f"), expr(api.ESeq, name("a"), name("b"))),
		"fst a":                             expr(api.EFirst, name("a")),
		"fst (a, b)":                        expr(api.EFirst, expr(api.EPair, name("a"), name("b"))),
		"snd (a + 1)":                       expr(api.ESecond, sum),
		"new[ref(int@low)@high] a":          typed(api.ENew, refOf(1, integer(0)), name("a")),
		"new[int@low] (a + 1)":              typed(api.ENew, integer(0), sum),
		"! a":                               expr(api.EGet, name("a")),
		"! (! a)":                           expr(api.EGet, expr(api.EGet, name("a"))),
		"a := b":                            expr(api.ESet, name("a"), name("b")),
		"(a + 1) := (a + 1)":                expr(api.ESet, sum, sum),
		"out[high] a":                       out(1, name("a")),
		"out[low] (a + 1)":                  out(0, sum),
		"raise[bool@high] a":                typed(api.ERaise, boolean(1), name("a")),
		"raise[int@low] (a + 1)":            typed(api.ERaise, integer(0), sum),
		"try a with v => b end":             named(api.ETry, "v", name("a"), name("b")),
		"try (a + 1) with v => (a + 1) end": named(api.ETry, "v", sum, sum),
		"a ; b":                             expr(api.ESeq, name("a"), name("b")),
		"(a + 1) ; (a ; b)":                 expr(api.ESeq, sum, expr(api.ESeq, name("a"), name("b"))),
		"a + b":                             bin(api.OpAdd, name("a"), name("b")),
		"a - b":                             bin(api.OpSub, name("a"), name("b")),
		"a * b":                             bin(api.OpMul, name("a"), name("b")),
		"a / b":                             bin(api.OpDiv, name("a"), name("b")),
		"a % b":                             bin(api.OpMod, name("a"), name("b")),
		"a < b":                             bin(api.OpLess, name("a"), name("b")),
		"a == b":                            bin(api.OpSame, name("a"), name("b")),
		"(a + 1) * (1, true)":               bin(api.OpMul, sum, expr(api.EPair, number(1), truth(1))),
		"not a":                             expr(api.ENot, name("a")),
		"not (not false)":                   expr(api.ENot, expr(api.ENot, truth(0))),
	} {
		want = "lattice { low, high, low < high }\nmain(x: int@high): int@high ! none =\n" + want + "\n"
		if got, e := syntax.Print(program(e)); got != want || e != api.OK {
			t.Errorf("Print: %q, %v; want %q", got, e, want)
		}
	}
}

// TestProgramText (P6.2): what stands ahead of the Body, over many lattices.
func TestProgramText(t *testing.T) {
	for want, l := range map[string]api.Lattice{
		"lattice { α }":                                      single(),
		"lattice { low, high, low < high }":                  chain(),
		"lattice { a, b, b < a }":                            made([]string{"a", "b"}, [2]int{1, 0}),
		"lattice { a, b, c, a < b, b < c }":                  made([]string{"a", "b", "c"}, [2]int{0, 1}, [2]int{1, 2}, [2]int{0, 2}),
		"lattice { a, b, c, a < c, c < b }":                  made([]string{"a", "b", "c"}, [2]int{0, 2}, [2]int{2, 1}),
		"lattice { a, b, c, d, a < b, c < b, d < a, d < c }": diamond(),
		"lattice { s0, s1, s2, s3, s4, s5, s6, s7, s0 < s1, s0 < s2, s0 < s4, s1 < s3, s1 < s5, s2 < s3, s2 < s6, s3 < s7, s4 < s5, s4 < s6, s5 < s7, s6 < s7 }": cube(),
		"lattice { o, p, q, r, t, o < p, o < q, p < r, q < t, r < t }":                                                                                           made([]string{"o", "p", "q", "r", "t"}, [2]int{0, 1}, [2]int{0, 2}, [2]int{1, 3}, [2]int{3, 4}, [2]int{2, 4}),
	} {
		for exc, told := range append([]string{"none"}, l.Names...) {
			p := api.Program{Lattice: l, Arg: "y", Param: refOf(0, integer(0)), Result: boolean(0), Exc: exc - 1, Body: number(1)}
			text := fmt.Sprintf("%s\nmain(y: ref(int@%s)@%s): bool@%s ! %s =\n1\n", want, l.Names[0], l.Names[0], l.Names[0], told)
			if got, e := syntax.Print(p); got != text || e != api.OK {
				t.Errorf("Print: %q, %v; want %q", got, e, text)
			}
		}
	}
}

// refBody is a Body's text, with each kind's as the chapter shows it: A, B, C are Parts with brackets, 1, 2 those without.
func refBody(l api.Lattice, e api.Expr) string {
	shown := map[int]string{
		api.EInt: "N", api.EBool: "T", api.EVar: "X", api.ELet: "let X = A in B", api.EIf: "if A then B else C", api.EFun: "fun X(Y: K): G ! L, M => A",
		api.ECall: "A(2)", api.EPair: "(1, 2)", api.EFirst: "fst A", api.ESecond: "snd A", api.ENew: "new[K] A", api.EGet: "! A", api.ESet: "A := B", api.EOut: "out[L] A",
		api.ERaise: "raise[K] A", api.ETry: "try A with X => B end", api.ESeq: "A ; B", api.EBin: "A O B", api.ENot: "not A",
	}[e.Kind]
	told := map[rune]string{'N': fmt.Sprint(e.N), 'T': fmt.Sprint(e.N == 1), 'X': e.Text, 'Y': e.Arg}
	told['K'], _ = syntax.Type(l, e.Type)
	told['G'], _ = syntax.Type(l, e.Give)
	names := append([]string{"none"}, l.Names...)
	if e.Kind == api.EFun || e.Kind == api.EOut {
		told['L'], told['M'] = names[e.N+1], names[e.M+1]
	}
	if e.Kind == api.EBin {
		told['O'] = strings.Fields("+ - * / % < ==")[e.N-6]
	}
	for i, part := range e.Parts {
		text := refBody(l, part)
		told[rune('1'+i)], told[rune('A'+i)] = text, "("+text+")"
		if part.Kind <= api.EVar || part.Kind == api.EPair {
			told[rune('A'+i)] = text
		}
	}
	var b strings.Builder
	for _, r := range shown {
		if text, ok := told[r]; ok {
			b.WriteString(text)
		} else {
			b.WriteRune(r)
		}
	}
	return b.String()
}

// TestDrawnTexts (P6.2): drawn programs.
func TestDrawnTexts(t *testing.T) {
	draw := rand.New(rand.NewSource(6262))
	for n := range 3000 {
		p := drawnProgram(draw, 1+n%6)
		got, e := syntax.Print(p)
		_, behind, _ := strings.Cut(got, "\n")
		first, body, _ := strings.Cut(behind, "\n")
		param, _ := syntax.Type(p.Lattice, p.Param)
		result, _ := syntax.Type(p.Lattice, p.Result)
		wantFirst := "main(" + p.Arg + ": " + param + "): " + result + " ! " + append([]string{"none"}, p.Lattice.Names...)[p.Exc+1] + " ="
		if want := refBody(p.Lattice, p.Body) + "\n"; e != api.OK || body != want || first != wantFirst {
			t.Fatalf("Print: %q, %v; want %q", got, e, want)
		}
	}
}

// TestLatticesComeBack (P6.2, P6.4): all orders of four labels that are lattices are read as they were printed.
func TestLatticesComeBack(t *testing.T) {
	found := 0
	for bits := range 1 << 12 {
		var pairs [][2]int
		for i := range 12 {
			if bits>>i&1 == 1 {
				a, b := i/3, i%3
				if b >= a {
					b++
				}
				pairs = append(pairs, [2]int{a, b})
			}
		}
		l, e := lattice.Make([]string{"p", "q", "r", "s"}, pairs)
		if e != api.OK {
			continue
		}
		found++
		p := api.Program{Lattice: l, Arg: "y", Param: integer(3), Result: boolean(2), Exc: 1, Body: number(1)}
		s, _ := syntax.Print(p)
		q, _, e := syntax.Parse(s)
		if e != api.OK || !lattice.Same(q.Lattice, l) || !sameProgram(p, q, false) {
			t.Fatal(s, e)
		}
	}
	if found < 36 {
		t.Error(found)
	}
}
