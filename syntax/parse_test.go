package syntax_test

import (
	"strings"
	"testing"

	"palisade/api"
	"palisade/lattice"
	"palisade/syntax"
)

// TestExamples (P6.1): those of the chapter.
func TestExamples(t *testing.T) {
	const text = "lattice { low, high, low < high } main(x: int@high): int@high ! none = x + 1"
	body := at(71, bin(api.OpAdd, at(71, name("x")), at(75, number(1))))
	wants(t, text, program(body))
	refuses(t, text[:len(text)-2], len(text)-2, api.ErrSyntax)
	refuses(t, "lattice { a, b } main", 0, api.ErrLattice)
}

// TestExpressions (P6.1): each form of the grammar, with all places.
func TestExpressions(t *testing.T) {
	a, b, c := func(place int) api.Expr { return at(place, name("a")) }, func(place int) api.Expr { return at(place, name("b")) }, func(place int) api.Expr { return at(place, name("c")) }
	for s, want := range map[string]api.Expr{
		"0": number(0), "9223372036854775807": number(9223372036854775807), "true": truth(1), "false": truth(0), "abc": name("abc"), "lets": name("lets"), "low": name("low"),
		"let v = a in b":          at(0, named(api.ELet, "v", a(8), b(13))),
		"let v=a in b;c":          at(0, named(api.ELet, "v", a(6), at(11, expr(api.ESeq, b(11), c(13))))),
		"if a then b else c":      at(0, expr(api.EIf, a(3), b(10), c(17))),
		"a := b":                  expr(api.ESet, a(0), b(5)),
		"a := b := c":             expr(api.ESet, a(0), at(5, expr(api.ESet, b(5), c(10)))),
		"a ; b":                   expr(api.ESeq, a(0), b(4)),
		"a;b;c":                   expr(api.ESeq, a(0), at(2, expr(api.ESeq, b(2), c(4)))),
		"a < b":                   bin(api.OpLess, a(0), b(4)),
		"a == b":                  bin(api.OpSame, a(0), b(5)),
		"a+b":                     bin(api.OpAdd, a(0), b(2)),
		"a-b":                     bin(api.OpSub, a(0), b(2)),
		"a*b":                     bin(api.OpMul, a(0), b(2)),
		"a/b":                     bin(api.OpDiv, a(0), b(2)),
		"a%b":                     bin(api.OpMod, a(0), b(2)),
		"not a":                   expr(api.ENot, a(4)),
		"!a":                      expr(api.EGet, a(1)),
		"fst a":                   expr(api.EFirst, a(4)),
		"snd a":                   expr(api.ESecond, a(4)),
		"out[high] a":             out(1, a(10)),
		"out [ low ] a":           out(0, a(12)),
		"new[int@high] a":         typed(api.ENew, integer(1), a(14)),
		"raise[bool@low] a":       typed(api.ERaise, boolean(0), a(16)),
		"a(b)":                    expr(api.ECall, a(0), b(2)),
		"a(b)(c)":                 expr(api.ECall, expr(api.ECall, a(0), b(2)), c(5)),
		"a(b;c)":                  expr(api.ECall, a(0), at(2, expr(api.ESeq, b(2), c(4)))),
		"(a)":                     a(1),
		"((a))":                   a(2),
		"(a, b)":                  expr(api.EPair, a(1), b(4)),
		"(a;b,c)":                 expr(api.EPair, at(1, expr(api.ESeq, a(1), b(3))), c(5)),
		"try a with v => b end":   named(api.ETry, "v", a(4), b(16)),
		"try a;b with v=>b;c end": named(api.ETry, "v", at(4, expr(api.ESeq, a(4), b(6))), at(16, expr(api.ESeq, b(16), c(18)))),
		"fun f(v: int@low): bool@high ! high, none => a": function("f", "v", integer(0), boolean(1), 1, api.None, a(45)),
		"fun f(f:int@low):int@low!low,high=>a;b":         expr(api.ESeq, function("f", "f", integer(0), integer(0), 0, 1, a(35)), b(37)),
	} {
		wantsBody(t, s, want)
	}
}

// TestJoined (P6.1): what binds more than what, which of two is joined first, and where brackets stand.
func TestJoined(t *testing.T) {
	a, b, c := func(place int) api.Expr { return at(place, name("a")) }, func(place int) api.Expr { return at(place, name("b")) }, func(place int) api.Expr { return at(place, name("c")) }
	for s, want := range map[string]api.Expr{
		"a+b+c":                               bin(api.OpAdd, bin(api.OpAdd, a(0), b(2)), c(4)),
		"a-b+c":                               bin(api.OpAdd, bin(api.OpSub, a(0), b(2)), c(4)),
		"a-(b+c)":                             bin(api.OpSub, a(0), at(3, bin(api.OpAdd, b(3), c(5)))),
		"a*b/c":                               bin(api.OpDiv, bin(api.OpMul, a(0), b(2)), c(4)),
		"a%b*c":                               bin(api.OpMul, bin(api.OpMod, a(0), b(2)), c(4)),
		"a+b*c":                               bin(api.OpAdd, a(0), at(2, bin(api.OpMul, b(2), c(4)))),
		"a*b+c":                               bin(api.OpAdd, bin(api.OpMul, a(0), b(2)), c(4)),
		"(a+b)*c":                             at(1, bin(api.OpMul, at(1, bin(api.OpAdd, a(1), b(3))), c(6))),
		"a<b+c":                               bin(api.OpLess, a(0), at(2, bin(api.OpAdd, b(2), c(4)))),
		"a+b==c":                              bin(api.OpSame, bin(api.OpAdd, a(0), b(2)), c(5)),
		"(a<b)==c":                            at(1, bin(api.OpSame, at(1, bin(api.OpLess, a(1), b(3))), c(7))),
		"a:=b<c":                              expr(api.ESet, a(0), at(3, bin(api.OpLess, b(3), c(5)))),
		"a<b:=c":                              expr(api.ESet, bin(api.OpLess, a(0), b(2)), c(5)),
		"a:=b;c":                              expr(api.ESeq, expr(api.ESet, a(0), b(3)), c(5)),
		"(a;b);c":                             at(1, expr(api.ESeq, at(1, expr(api.ESeq, a(1), b(3))), c(6))),
		"((a))(b)":                            at(2, expr(api.ECall, a(2), b(6))),
		"(a,b)(c)":                            expr(api.ECall, expr(api.EPair, a(1), b(3)), c(6)),
		"!a(b)":                               expr(api.EGet, at(1, expr(api.ECall, a(1), b(3)))),
		"(!a)(b)":                             at(1, expr(api.ECall, at(1, expr(api.EGet, a(2))), b(5))),
		"!a+b":                                bin(api.OpAdd, expr(api.EGet, a(1)), b(3)),
		"a*!b":                                bin(api.OpMul, a(0), at(2, expr(api.EGet, b(3)))),
		"!!a":                                 expr(api.EGet, at(1, expr(api.EGet, a(2)))),
		"!a:=!b":                              expr(api.ESet, expr(api.EGet, a(1)), at(4, expr(api.EGet, b(5)))),
		"fst snd not a":                       expr(api.EFirst, at(4, expr(api.ESecond, at(8, expr(api.ENot, a(12)))))),
		"let v=a in b;c":                      named(api.ELet, "v", a(6), at(11, expr(api.ESeq, b(11), c(13)))),
		"(let v=a in b);c":                    at(1, expr(api.ESeq, at(1, named(api.ELet, "v", a(7), b(12))), c(15))),
		"let v=a:=b in c":                     named(api.ELet, "v", at(6, expr(api.ESet, a(6), b(9))), c(14)),
		"let v=let w=a in b;c in a":           named(api.ELet, "v", at(6, named(api.ELet, "w", a(12), at(17, expr(api.ESeq, b(17), c(19))))), a(24)),
		"if a then b else c;a":                expr(api.ESeq, expr(api.EIf, a(3), b(10), c(17)), a(19)),
		"if a then b else c:=a":               expr(api.EIf, a(3), b(10), at(17, expr(api.ESet, c(17), a(20)))),
		"if a then let v=b in b;c else a":     expr(api.EIf, a(3), at(10, named(api.ELet, "v", b(16), at(21, expr(api.ESeq, b(21), c(23))))), a(30)),
		"if a then b else let v=a in b;c":     expr(api.EIf, a(3), b(10), at(17, named(api.ELet, "v", a(23), at(28, expr(api.ESeq, b(28), c(30)))))),
		"if if a then b else c then a else b": expr(api.EIf, at(3, expr(api.EIf, a(6), b(13), c(20))), a(27), b(34)),
		"try a with v=>b end(c)":              expr(api.ECall, named(api.ETry, "v", a(4), b(14)), c(20)),
	} {
		wantsBody(t, s, want)
	}
}

// TestTypes (P6.1): each form of a type, where one stands.
func TestTypes(t *testing.T) {
	for s, want := range map[string]api.Type{
		"int@low": integer(0), "bool@high": boolean(1), "int @ high": integer(1),
		"(int@low, bool@high)@high":                                         pairOf(1, integer(0), boolean(1)),
		"ref(int@high)@low":                                                 refOf(0, integer(1)),
		"[int@low -> bool@high ! low, none]@low":                            funOf(0, integer(0), boolean(1), 0, api.None),
		"[int@low->bool@low!high,low]@high":                                 funOf(1, integer(0), boolean(0), 1, 0),
		"ref((ref(int@low)@high,[int@low->int@low!low,high]@low)@low)@high": refOf(1, pairOf(0, refOf(1, integer(0)), funOf(0, integer(0), integer(0), 0, 1))),
	} {
		p := program(number(1))
		p.Param = want
		text := "lattice { low, high, low < high } main(x: " + s + "): int@high ! none = 1"
		p.Body.At = len(text) - 1
		wants(t, text, p)
		p = program(number(1))
		p.Result = want
		text = "lattice { low, high, low < high } main(x: int@high): " + s + " ! none = 1"
		p.Body.At = len(text) - 1
		wants(t, text, p)
		wantsBody(t, "new["+s+"]1", typed(api.ENew, want, at(len(s)+5, number(1))))
		wantsBody(t, "raise["+s+"]1", typed(api.ERaise, want, at(len(s)+7, number(1))))
		wantsBody(t, "fun f(y:"+s+"):int@low!low,low=>1", function("f", "y", want, integer(0), 0, 0, at(len(s)+27, number(1))))
		wantsBody(t, "fun f(y:int@low):"+s+"!low,low=>1", function("f", "y", integer(0), want, 0, 0, at(len(s)+27, number(1))))
	}
}

// TestLattices (P6.1): names are numbered as they first stand, in a pair or alone; an item may stand twice.
func TestLattices(t *testing.T) {
	for items, want := range map[string]struct {
		names string
		pairs [][2]int
	}{
		"a":                                     {"a", nil},
		"a, a, a":                               {"a", nil},
		"a < a":                                 {"a", nil},
		"a < b":                                 {"a b", [][2]int{{0, 1}}},
		"b < a":                                 {"b a", [][2]int{{0, 1}}},
		"a, b, b < a":                           {"a b", [][2]int{{1, 0}}},
		"b, a < b, a < b, b, a":                 {"b a", [][2]int{{1, 0}}},
		"a < b, b < c":                          {"a b c", [][2]int{{0, 1}, {1, 2}}},
		"c, a < b, b < c, a < c":                {"c a b", [][2]int{{1, 2}, {2, 0}}},
		"b < t, a, o < a, o < b, a < t":         {"b t a o", [][2]int{{3, 0}, {3, 2}, {0, 1}, {2, 1}}},
		strings.Repeat("a < b, ", 63) + "a < b": {"a b", [][2]int{{0, 1}}},
		"a<b,b<c,c<d,d<e,e<f,f<g,g<h":           {"a b c d e f g h", [][2]int{{0, 1}, {1, 2}, {2, 3}, {3, 4}, {4, 5}, {5, 6}, {6, 7}}},
	} {
		l, e := lattice.Make(strings.Fields(want.names), want.pairs)
		if e != api.OK {
			t.Fatal(items, e)
		}
		text := "lattice{" + items + "}main(x:int@a):bool@a!a=x"
		a := lattice.Find(l, "a")
		wants(t, text, api.Program{Lattice: l, Arg: "x", Param: integer(a), Result: boolean(a), Exc: a, Body: at(len(text)-1, name("x"))})
	}
}

// TestNoLattice (P6.1): ErrLattice at the word lattice, just when the block's last word is read.
func TestNoLattice(t *testing.T) {
	for _, items := range []string{
		"a, b", "a < b, b < a", "a < b, a < c", "a < c, b < c", "a < b, b < c, c < a", "a, b < c",
		"o < a, o < b, a < c, a < d, b < c, b < d, c < t, d < t",
		"a<b,b<c,c<d,d<e,e<f,f<g,g<h,h<i", "a,b,c,d,e,f,g,h,i,a<b",
		strings.Repeat("a < b, ", 64) + "a < b",
	} {
		for _, more := range []string{"}", "} main(x: int@a): int@a ! none = x", "} }", "} main(x: int@z", "} 1"} {
			refusesAt(t, "^lattice {"+items+more, api.ErrLattice)
			refusesAt(t, "\n# lattice\n ^lattice {"+items+more, api.ErrLattice)
		}
		refusesAt(t, "lattice {"+items+"^", api.ErrSyntax)
		refusesAt(t, "lattice {"+items+" ^] }", api.ErrSyntax)
		refusesAt(t, "lattice {"+items+", ^}", api.ErrSyntax)
	}
}

// TestNoLabel (P6.1): a label that the lattice hasn't is told at its word, wherever one stands; so is what is no name.
func TestNoLabel(t *testing.T) {
	for _, label := range []string{"mid", "x", "l", "Low", "lowe", "hig", "none", "int", "1", "(", "@", "let"} {
		for _, s := range []string{
			"main(x: int@^L): int@z ! y = 1", "main(x: bool@^L)", "main(x: (int@^L, int@z)@z)", "main(x: (int@low, int@^L)@z)", "main(x: (int@low, int@low)@^L)",
			"main(x: ref(int@^L)@z)", "main(x: ref(int@low)@^L)", "main(x: [int@^L -> int@z ! z, z]@z)", "main(x: [int@low -> int@^L ! z, z]@z)",
			"main(x: [int@low -> int@low ! ^L, z]@z)", "main(x: [int@low -> int@low ! low, none]@^L)", "main(x: int@low): int@^L ! z =",
			"main(x: int@low): int@low ! none = out[^L] 1", "main(x: int@low): int@low ! none = new[int@^L] 1", "main(x: int@low): int@low ! none = raise[int@^L] 1",
			"main(x: int@low): int@low ! none = fun f(x: int@^L)", "main(x: int@low): int@low ! none = fun f(x: int@low): int@^L",
			"main(x: int@low): int@low ! none = fun f(x: int@low): int@low ! ^L, z",
		} {
			refusesAt(t, "lattice { low < high } "+strings.ReplaceAll(s, "L", label), api.ErrSyntax)
		}
		if label == "none" {
			continue
		}
		for _, s := range []string{
			"main(x: [int@low -> int@low ! low, ^L]@z)", "main(x: int@low): int@low ! ^L = 1 +",
			"main(x: int@low): int@low ! none = fun f(x: int@low): int@low ! low, ^L =>",
		} {
			refusesAt(t, "lattice { low < high } "+strings.ReplaceAll(s, "L", label), api.ErrSyntax)
		}
	}
}

// TestLexFirst (P6.1): layer 5's error comes ahead of all others, with its place.
func TestLexFirst(t *testing.T) {
	refusesAt(t, "lattice { a, b } main main ^$", api.ErrLex)
	refusesAt(t, "} ^007", api.ErrLex)
	refusesAt(t, head+"x ) ^aaaaaaaaaaaaaaaaa", api.ErrLex)
	refusesAt(t, "^é", api.ErrLex)
	refuses(t, strings.Repeat(" ", api.MaxSource+1), 0, api.ErrLong)
	refuses(t, head+strings.Repeat("$", api.MaxSource), 0, api.ErrLong)
	refuses(t, strings.Repeat(";", api.MaxTokens+1), api.MaxTokens, api.ErrLimit)
	refuses(t, strings.Repeat(";", api.MaxTokens), 0, api.ErrSyntax)
}

// TestWordsLack (P6.1): a text that ends ahead of its program's end is refused at its length, remarks and blanks counting.
func TestWordsLack(t *testing.T) {
	for _, s := range []string{"", " ", "\n\n", "# all is a remark", "#\n"} {
		refuses(t, s, len(s), api.ErrSyntax)
	}
	whole := head + "let f = fun g(y: (int@low, ref(bool@low)@low)@low): [int@low -> int@low ! low, high]@low ! high, none => try g(y) with e => raise[int@low] e end in if not true then (f(1), 2) else out[low] !new[int@low] 3"
	words := textsIn(t, whole)
	for n := range words {
		for _, end := range []string{"", " ", " # and a remark", "\n\t"} {
			s := strings.Join(words[:n], " ") + end
			refuses(t, s, len(s), api.ErrSyntax)
		}
	}
	if _, _, e := syntax.Parse(strings.Join(words, " ")); e != api.OK {
		t.Error(e)
	}
}

// TestWordsBehind (P6.1): a word behind a whole program is refused, if it doesn't go on with it.
func TestWordsBehind(t *testing.T) {
	for _, body := range []string{"x", "1", "(x)", "x(1)", "x + 1", "not x", "(x, 1)", "try x with e => x end", "out[low] x", "let y = 1 in x", "x ; 2", "x := 2"} {
		for _, word := range []string{"1", "y", "true", "main", "lattice", "let", "if", "fun", "in", "then", "else", "end", "with", "try", "not", "fst", "!", "out", "new", "raise", "none", "int", ")", "]", "}", "[", "{", ",", ":", "@", "=", "=>", "->", ">"} {
			refusesAt(t, head+body+" ^"+word, api.ErrSyntax)
			refusesAt(t, head+body+"# 1\n ^"+word+" 1", api.ErrSyntax)
		}
	}
}

// TestNoName (P6.1): a keyword, a number or a sign is no name.
func TestNoName(t *testing.T) {
	for _, word := range []string{"let", "main", "none", "int", "lattice", "1", "(", "=", ""} {
		for _, s := range []string{
			"lattice { ^W", "lattice { a, ^W", "lattice { a < ^W", "lattice { a } main(^W", head + "let ^W", head + "fun ^W", head + "fun f(^W", head + "try x with ^W",
		} {
			refusesAt(t, strings.ReplaceAll(s, "W", word), api.ErrSyntax)
			if word != "" {
				refusesAt(t, strings.ReplaceAll(s, "W", word)+" y", api.ErrSyntax)
			}
		}
	}
}

// TestNotThere (P6.1): forms that are nearly in the grammar.
func TestNotThere(t *testing.T) {
	for _, s := range []string{
		"x < 1 ^< 2", "x == 1 ^== 2", "x < 1 ^== 2", "x ^= 1", "x + ^let y = 1 in 2", "x * ^if x then 1 else 2", "not ^fun f", "x < ^let", "1 ^2", "x ^y",
		"if x ^", "if x ^; 1 then 2 else 3", "if x then 1 ^; 2 else 3", "if x then 1 ^", "let y = 1 ^; 2 in 3", "let y ^: int@low = 1 in 2", "let y = ^in 2", "let y = 1 in ^",
		"(1, 2^, 3)", "(^)", "f(^)", "f(1^, 2)", "(1^]", "x ; ^", "^;", "x := ^", "^:= 1", "1 + ^", "^+ 1", "^-1", "x - ^-1", "x + ^* 2",
		"out ^low x", "out[^1] x", "out[low^, x", "out[low] ^", "new ^int@low", "new[int^] 1", "raise ^x", "raise[int@low] ^let", "try x ^end", "try x with e ^= x end", "try x with e => x^", "try x with ^=> x end",
		"fun f ^x", "fun f(x ^) : int@low", "fun f(x: int@low) ^=> x", "fun f(x: int@low): int@low ^=> x", "fun f(x: int@low): int@low ! ^none, none => x", "fun f(x: int@low): int@low ! low ^=> x", "fun f(x: int@low): int@low ! low, none ^= x",
		"! ^", "not ^", "fst ^, 1", "(x ^: int@low)", "^end", "^in", "^none", "^int", "^main", "^>", "^@", "x ^-> 1", "x ^=> 1",
	} {
		refusesAt(t, head+s, api.ErrSyntax)
	}
	for _, s := range []string{
		"^main", "^{", "lattice ^a", "lattice {^}", "lattice { a ^b }", "lattice { a < b ^< c }", "lattice { a, ^, b }", "lattice { a < ^}", "lattice { a ^> b }",
		"lattice { a } ^lattice", "lattice { a } main ^x", "lattice { a } main(x ^)", "lattice { a } main(x: ^a)", "lattice { a } main(x: int ^)", "lattice { a } main(x: int@a ^, y", "lattice { a } main(x: int@a) ^=",
		"lattice { a } main(x: int@a): int@a ^= x", "lattice { a } main(x: int@a): int@a ! a^, none = x", "lattice { a } main(x: int@a): int@a ! none ^=> x", "lattice { a } main(x: (int@a ^)@a)", "lattice { a } main(x: (int@a, int@a ^, int@a)",
		"lattice { a } main(x: (int@a, int@a) ^)", "lattice { a } main(x: [int@a ^=> int@a", "lattice { a } main(x: [int@a -> int@a ^]", "lattice { a } main(x: [int@a -> int@a ! ^none", "lattice { a } main(x: [int@a -> int@a ! a ^]", "lattice { a } main(x: [int@a -> int@a ! a, a^)",
		"lattice { a } main(x: ref ^int@a)", "lattice { a } main(x: ref(ref^@a)@a)", "lattice { a } main(x: ref(int@a ^]", "lattice { a } main(x: ^Int@a)",
	} {
		refusesAt(t, s, api.ErrSyntax)
	}
}
