package check_test

import (
	"testing"

	"palisade/api"
)

// Each test of this file is of P7.1: the rule of some Kinds, with T, X, and each place and error that the rule names.

// TestPlain: EInt, EBool have the PC.
func TestPlain(t *testing.T) {
	for _, pc := range []string{"o", "a", "bc", "abc"} {
		for _, heap := range []string{"o", "b", "abc"} {
			p := place{"", pc, heap}
			p.gives(t, "0", "int@"+pc, "none")
			p.gives(t, "9223372036854775807", "int@"+pc, "none")
			p.gives(t, "true", "bool@"+pc, "none")
			p.gives(t, "false", "bool@"+pc, "none")
		}
	}
}

// TestVar: EVar, of which the last one of a name counts.
func TestVar(t *testing.T) {
	twice := bottom("x: int@a; y: bool@b; x: (int@c, bool@o)@ab; z: int@c")
	twice.gives(t, "x", "(int@c, bool@o)@ab", "none")
	twice.gives(t, "y", "bool@b", "none")
	twice.gives(t, "z", "int@c", "none")
	twice.refuses(t, "^v", api.ErrType)
	twice.refuses(t, "^X", api.ErrType)
	bottom("").refuses(t, "^x", api.ErrType)
	bottom("f: [int@a -> bool@b ! c, none]@bc; r: ref(int@a)@b").gives(t, "f", "[int@a -> bool@b ! c, none]@bc", "none")
	at := place{"x: int@a; r: ref(int@o)@b; q: (int@o, bool@a)@o; f: [int@o -> int@a ! o, ab]@ac", "c", "abc"}
	at.gives(t, "x", "int@ac", "none")
	at.gives(t, "r", "ref(int@o)@bc", "none")
	at.gives(t, "q", "(int@o, bool@a)@c", "none")
	at.gives(t, "f", "[int@o -> int@a ! o, ab]@ac", "none")
}

// TestLet: ELet, whose second Part has the first one's T, and stands behind it.
func TestLet(t *testing.T) {
	p := bottom("x: int@a; y: bool@b; f: [int@abc -> bool@o ! abc, c]@o")
	p.gives(t, "let v = x in v", "int@a", "none")
	p.gives(t, "let v = x in 1", "int@o", "none")
	p.gives(t, "let x = y in x", "bool@b", "none")
	p.gives(t, "let x = x < 1 in x", "bool@a", "none")
	p.gives(t, "let v = 1 / x in 1", "int@a", "a")
	p.gives(t, "let v = 1 / x in y", "bool@ab", "a")
	p.gives(t, "let v = 1 / x in f(1)", "bool@ac", "ac")
	p.gives(t, "let v = 1 in f(1)", "bool@c", "c")
	p.gives(t, "let v = f(1) in v", "bool@c", "c")
	p.refuses(t, "let v = ^v in v", api.ErrType)
	p.refuses(t, "(let v = 1 in v) + ^v", api.ErrType)
	place{"", "ab", "o"}.gives(t, "let v = 1 in v", "int@ab", "none")
	p.refuses(t, "let v = 1 / x in ^out[b] 1", api.ErrFlow)
	p.gives(t, "let v = x in out[o] 1", "int@o", "none")
	place{"", "o", "c"}.refuses(t, "let v = ^out[b] 1 in v", api.ErrFlow)
	place{"", "o", "c"}.refuses(t, "let v = 1 in ^out[b] v", api.ErrFlow)
}

// TestIf: EIf, both of whose ways have the Bool's Label as PC.
func TestIf(t *testing.T) {
	p := bottom("p: bool@a; x: int@b; r: ref(int@c)@o; s: ref(int@b)@o; q: ref(int@c)@b; f: [int@abc -> bool@o ! abc, c]@o; d: int@bc")
	p.gives(t, "if p then 1 else 2", "int@a", "none")
	p.gives(t, "if true then x else 2", "int@b", "none")
	p.gives(t, "if true then 2 else x", "int@b", "none")
	p.gives(t, "if p then x else 2", "int@ab", "none")
	p.gives(t, "if p then r else q", "ref(int@c)@ab", "none")
	p.gives(t, "if f(1) then 1 else 2", "int@c", "c")
	p.gives(t, "if p then 1 / x else 2", "int@ab", "ab")
	p.gives(t, "if p then 2 else 1 / x", "int@ab", "ab")
	p.gives(t, "if f(1) then 1 / x else 2", "int@bc", "bc")
	p.gives(t, "if p then (if f(1) then 1 else 2) else 1 / x", "int@abc", "abc")
	p.gives(t, "if 1 / x < 1 then p else true", "bool@ab", "b")
	p.gives(t, "if true then (1 / x; out[b] 1) else out[o] 1", "int@b", "b")
	p.refuses(t, "if p then ^out[b] 1 else 2", api.ErrFlow)
	p.refuses(t, "if p then 2 else ^out[b] 1", api.ErrFlow)
	p.gives(t, "if p then out[a] 1 else out[ab] 1", "int@a", "none")
	p.gives(t, "if true then out[o] 1 else out[o] 1", "int@o", "none")
	p.refuses(t, "if ^x then 1 else 2", api.ErrType)
	p.refuses(t, "if ^(true, true) then 1 else 2", api.ErrType)
	p.refuses(t, "1; ^if p then 1 else true", api.ErrType)
	p.refuses(t, "1; ^if p then s else r", api.ErrType)
	p.refuses(t, "1; ^if p then (1, p) else (1, 2)", api.ErrType)
	place{"p: bool@a", "b", "o"}.gives(t, "if p then 1 else 2", "int@ab", "none")
	place{"p: bool@a", "b", "o"}.refuses(t, "if p then ^out[b] 1 else 2", api.ErrFlow)
	place{"p: bool@a", "b", "o"}.refuses(t, "if p then ^out[a] 1 else 2", api.ErrFlow)
	place{"", "o", "c"}.refuses(t, "if true then 1 else ^out[a] 1", api.ErrFlow)
	place{"", "o", "c"}.refuses(t, "if true then ^out[a] 1 else 1", api.ErrFlow)
}

// TestFun: EFun, and where its Part stands.
func TestFun(t *testing.T) {
	p := bottom("x: int@a; y: bool@b; g: [int@o -> int@o ! o, none]@o")
	p.gives(t, "fun f(n: int@b): int@ab ! c, none => n", "[int@b -> int@ab ! c, none]@o", "none")
	p.gives(t, "fun f(n: int@b): int@a ! o, none => x", "[int@b -> int@a ! o, none]@o", "none")
	p.gives(t, "fun f(n: int@o): int@b ! bc, b => 1 / (if y then 1 else 2)", "[int@o -> int@b ! bc, b]@o", "none")
	p.gives(t, "fun f(n: int@o): int@b ! bc, abc => 1 / (if y then 1 else 2)", "[int@o -> int@b ! bc, abc]@o", "none")
	p.gives(t, "fun f(n: int@o): int@o ! o, none => f(n)", "[int@o -> int@o ! o, none]@o", "none")
	p.gives(t, "fun f(n: int@o): int@o ! c, none => out[c] n", "[int@o -> int@o ! c, none]@o", "none")
	p.gives(t, "fun f(f: int@o): int@o ! o, none => f + 1", "[int@o -> int@o ! o, none]@o", "none")
	p.gives(t, "fun x(n: int@o): int@o ! o, none => x(n)", "[int@o -> int@o ! o, none]@o", "none")
	p.gives(t, "fun g(x: bool@o): bool@o ! o, none => x", "[bool@o -> bool@o ! o, none]@o", "none")
	p.refuses(t, "fun f(f: int@o): int@o ! o, none => ^f(1)", api.ErrType)
	p.refuses(t, "fun f(n: int@o): int@o ! o, none => ^m", api.ErrType)
	p.refuses(t, "fun f(n: int@o): int@o ! o, none => ^x", api.ErrFlow)
	p.refuses(t, "fun f(n: int@o): int@o ! o, none => ^true", api.ErrType)
	p.refuses(t, "1; ^fun f(n: int@o): int@b ! o, none => 1 / n", api.ErrFlow)
	p.refuses(t, "1; ^fun f(n: int@b): int@b ! o, a => 1 / n", api.ErrFlow)
	p.refuses(t, "fun f(n: int@b): int@a ! o, none => ^1 / n", api.ErrFlow)
	p.refuses(t, "fun f(n: int@o): int@o ! c, none => ^out[b] n", api.ErrFlow)
	p.refuses(t, "fun f(n: int@o): int@o ! c, none => ^g(n)", api.ErrFlow)
	p.refuses(t, "(fun f(n: int@o): int@o ! o, none => n)(1) + ^f", api.ErrType)
	p.refuses(t, "(fun f(n: int@o): int@o ! o, none => n)(1) + ^n", api.ErrType)
	q := place{"x: int@a; g: [int@o -> int@o ! o, none]@o", "b", "c"}
	q.gives(t, "fun f(n: int@o): int@o ! o, none => 1", "[int@o -> int@o ! o, none]@b", "none")
	q.gives(t, "fun f(n: int@o): int@o ! o, none => n", "[int@o -> int@o ! o, none]@b", "none")
	q.gives(t, "fun f(n: int@o): int@o ! o, none => f(n)", "[int@o -> int@o ! o, none]@b", "none")
	q.gives(t, "fun f(n: int@o): int@o ! o, none => out[o] 1", "[int@o -> int@o ! o, none]@b", "none")
	q.gives(t, "fun f(n: int@o): int@ab ! o, none => x", "[int@o -> int@ab ! o, none]@b", "none")
	q.refuses(t, "fun f(n: int@o): int@a ! o, none => ^x", api.ErrFlow)
	q.refuses(t, "fun f(n: int@o): int@abc ! o, none => ^g(n)", api.ErrFlow)
	r := place{"x: int@o; y: int@o", "b", "o"}
	r.gives(t, "fun f(n: int@o): int@b ! o, none => let y = 1 in (fun h(m: int@o): int@b ! o, none => x)(y)", "[int@o -> int@b ! o, none]@b", "none")
	r.refuses(t, "fun f(n: int@o): int@b ! o, none => let y = 1 in (fun h(m: int@o): int@o ! o, none => ^x)(y)", api.ErrFlow)
	r.gives(t, "fun f(n: int@o): int@b ! o, none => let y = 1 in (fun h(m: int@o): int@o ! o, none => y)(y)", "[int@o -> int@b ! o, none]@b", "none")
	bottom("x: int@o; p: bool@a; q: bool@b").gives(t, "fun f(n: int@o): int@ab ! o, none => if p then (fun h(m: int@a): int@a ! abc, none => x)(1) else 1", "[int@o -> int@ab ! o, none]@o", "none")
}

// TestCall: ECall.
func TestCall(t *testing.T) {
	p := bottom("f: [int@a -> int@b ! abc, none]@c; e: [int@abc -> int@o ! abc, b]@c; g: [int@o -> (int@o, bool@a)@b ! abc, o]@o; x: int@ab; d: int@a; h: [int@abc -> int@o ! c, none]@c; k: [int@abc -> int@o ! ab, none]@o")
	p.gives(t, "f(1)", "int@bc", "none")
	p.gives(t, "f(d)", "int@bc", "none")
	p.gives(t, "e(1)", "int@bc", "bc")
	p.gives(t, "e(x)", "int@bc", "bc")
	p.gives(t, "e(1 / d)", "int@abc", "abc")
	p.gives(t, "f(1 / d)", "int@abc", "a")
	p.gives(t, "g(1)", "(int@o, bool@a)@b", "o")
	p.gives(t, "(1 / d; f)(2)", "int@abc", "a")
	p.refuses(t, "1; (^x)(1)", api.ErrType)
	p.refuses(t, "f(^x)", api.ErrFlow)
	p.refuses(t, "(1 / d; g)(^1)", api.ErrFlow)
	p.refuses(t, "(1 / d; e)(^out[bc] 1)", api.ErrFlow)
	p.refuses(t, "f(^true)", api.ErrType)
	p.refuses(t, "f(^f)", api.ErrType)
	p.gives(t, "h(1)", "int@c", "none")
	p.refuses(t, "1; ^h(1 / d)", api.ErrFlow)
	p.gives(t, "k(1 / d)", "int@a", "a")
	p.refuses(t, "1; ^k(1 / d; e(1))", api.ErrFlow)
}

// TestCallBounds: a call is bounded by the function's Heap, from its Label, from NOW, and from HEAP.
func TestCallBounds(t *testing.T) {
	names := "f: [int@abc -> int@o ! ab, none]@o; g: [int@abc -> int@o ! ab, o]@a"
	for heap, ok := range map[string]bool{"o": true, "a": true, "b": true, "ab": true, "c": false, "ac": false, "bc": false, "abc": false} {
		if p := (place{names, "o", heap}); ok {
			p.gives(t, "f(1)", "int@o", "none")
			p.gives(t, "g(1)", "int@a", "a")
		} else {
			p.refuses(t, "^f(1)", api.ErrFlow)
			p.refuses(t, "^g(1)", api.ErrFlow)
		}
		if p := (place{names, heap, "o"}); ok {
			p.gives(t, "f(1)", "int@"+heap, "none")
		} else {
			p.refuses(t, "^f(1)", api.ErrFlow)
		}
	}
	place{names, "b", "o"}.gives(t, "g(1)", "int@ab", "ab")
	place{names, "b", "ab"}.gives(t, "g(1)", "int@ab", "ab")
	bottom("f: [int@abc -> int@o ! ab, none]@c").refuses(t, "^f(1)", api.ErrFlow)
	bottom("f: [int@abc -> int@o ! ab, none]@abc").refuses(t, "^f(1)", api.ErrFlow)
}

// TestPair: EPair, EFirst, ESecond.
func TestPair(t *testing.T) {
	p := bottom("x: int@a; y: bool@b; d: int@c; q: (int@a, (bool@b, int@o)@o)@c; r: ref(int@o)@ab")
	p.gives(t, "(1, true)", "(int@o, bool@o)@o", "none")
	p.gives(t, "(x, y)", "(int@a, bool@b)@o", "none")
	p.gives(t, "(r, (y, x))", "(ref(int@o)@ab, (bool@b, int@a)@o)@o", "none")
	p.gives(t, "(1 / d, y)", "(int@c, bool@bc)@c", "c")
	p.gives(t, "(y, 1 / d)", "(bool@bc, int@c)@c", "c")
	p.gives(t, "(1 / x, 1 / d)", "(int@ac, int@ac)@ac", "ac")
	p.gives(t, "((x, y), 1 / d)", "((int@a, bool@b)@c, int@c)@c", "c")
	place{"x: int@a; y: bool@b", "c", "o"}.gives(t, "(x, y)", "(int@ac, bool@bc)@c", "none")
	p.gives(t, "fst (x, 1)", "int@a", "none")
	p.gives(t, "snd (x, 1)", "int@o", "none")
	p.gives(t, "fst q", "int@ac", "none")
	p.gives(t, "snd q", "(bool@b, int@o)@c", "none")
	p.gives(t, "fst snd q", "bool@bc", "none")
	p.gives(t, "snd snd q", "int@c", "none")
	p.gives(t, "fst (x, 1 / d)", "int@ac", "c")
	p.gives(t, "snd (1 / d, true)", "bool@c", "c")
	p.refuses(t, "fst ^x", api.ErrType)
	p.refuses(t, "snd ^y", api.ErrType)
	p.refuses(t, "fst ^r", api.ErrType)
	place{"q: (int@a, bool@b)@o", "c", "o"}.gives(t, "fst q", "int@ac", "none")
	place{"q: (int@a, bool@b)@o", "c", "o"}.gives(t, "snd q", "bool@bc", "none")
	place{"", "o", "c"}.refuses(t, "(1, ^out[a] 1)", api.ErrFlow)
	place{"", "o", "c"}.refuses(t, "(^out[a] 1, 1)", api.ErrFlow)
	place{"", "o", "c"}.refuses(t, "fst (^out[a] 1, 1)", api.ErrFlow)
	place{"", "o", "c"}.refuses(t, "snd (^out[a] 1, 1)", api.ErrFlow)
}

// TestRef: ENew, EGet.
func TestRef(t *testing.T) {
	p := bottom("x: int@a; y: bool@b; d: int@c; r: ref((int@o, bool@a)@b)@c; f: [int@o -> int@o ! o, none]@o")
	p.gives(t, "new[int@o] 1", "ref(int@o)@o", "none")
	p.gives(t, "new[int@ab] x", "ref(int@ab)@o", "none")
	p.gives(t, "new[int@ac] (1 / d)", "ref(int@ac)@c", "c")
	p.gives(t, "new[int@c] (1 / d)", "ref(int@c)@c", "c")
	p.gives(t, "new[ref(int@o)@abc] new[int@o] 1", "ref(ref(int@o)@abc)@o", "none")
	p.gives(t, "new[[int@o -> int@b ! o, a]@b] f", "ref([int@o -> int@b ! o, a]@b)@o", "none")
	p.refuses(t, "new[int@b] ^x", api.ErrFlow)
	p.refuses(t, "new[int@o] (^1 / d)", api.ErrFlow)
	p.refuses(t, "new[int@b] ^y", api.ErrType)
	p.refuses(t, "new[ref(int@a)@abc] ^new[int@o] 1", api.ErrType)
	place{"", "a", "o"}.refuses(t, "new[int@b] ^1", api.ErrFlow)
	place{"", "a", "o"}.gives(t, "new[int@ab] 1", "ref(int@ab)@a", "none")
	place{"", "o", "abc"}.gives(t, "new[int@o] 1", "ref(int@o)@o", "none")
	place{"", "o", "c"}.refuses(t, "new[int@o] ^out[a] 1", api.ErrFlow)
	p.gives(t, "!r", "(int@o, bool@a)@bc", "none")
	p.gives(t, "!new[int@b] 1", "int@b", "none")
	p.gives(t, "!(1 / d; new[int@abc] 1)", "int@abc", "c")
	p.gives(t, "!(1 / d; new[bool@c] true)", "bool@c", "c")
	p.refuses(t, "!^x", api.ErrType)
	p.refuses(t, "! ^!r", api.ErrType)
	place{"r: ref(int@a)@b", "c", "o"}.gives(t, "!r", "int@abc", "none")
	place{"", "o", "c"}.refuses(t, "!new[int@o] ^out[a] 1", api.ErrFlow)
}

// TestSet: ESet.
func TestSet(t *testing.T) {
	p := bottom("r: ref(int@ab)@a; s: ref(int@ab)@c; q: ref((int@c, int@o)@b)@o; x: int@a; d: int@c; e: int@b; h: ref(int@abc)@o")
	p.gives(t, "r := 1", "int@o", "none")
	p.gives(t, "r := x", "int@o", "none")
	p.gives(t, "q := (d, 1)", "int@o", "none")
	p.gives(t, "h := 1 / d", "int@c", "c")
	p.gives(t, "(1 / d; h) := 1", "int@c", "c")
	p.gives(t, "(1 / d; h) := 1 / e", "int@bc", "bc")
	p.gives(t, "r := 1 / e", "int@b", "b")
	p.refuses(t, "r := ^d", api.ErrFlow)
	p.refuses(t, "r := ^true", api.ErrType)
	p.refuses(t, "q := ^(d, x)", api.ErrFlow)
	p.refuses(t, "r := ^1 / d", api.ErrFlow)
	p.refuses(t, "1; ^s := 1", api.ErrFlow)
	p.refuses(t, "1; ^x := 1", api.ErrType)
	p.refuses(t, "1; ^(q, q) := 1", api.ErrType)
	p.refuses(t, "(1 / d; r) := ^1", api.ErrFlow)
	place{"r: ref(int@ab)@a", "b", "a"}.gives(t, "r := 1", "int@b", "none")
	place{"r: ref(int@ab)@a", "c", "o"}.refuses(t, "r := ^1", api.ErrFlow)
	place{"r: ref(int@ab)@a", "o", "c"}.refuses(t, "^r := 1", api.ErrFlow)
	place{"r: ref(int@ab)@a", "o", "abc"}.refuses(t, "^r := 1", api.ErrFlow)
	place{"r: ref(int@ab)@a", "o", "ab"}.gives(t, "r := 1", "int@o", "none")
	place{"r: ref(int@abc)@a", "o", "c"}.refuses(t, "r := ^out[a] 1", api.ErrFlow)
	place{"r: ref(int@abc)@a", "o", "c"}.refuses(t, "(^out[a] 1; r) := 1", api.ErrFlow)
}

// TestOut: EOut.
func TestOut(t *testing.T) {
	p := bottom("x: int@a; d: int@c; y: bool@o")
	p.gives(t, "out[o] 1", "int@o", "none")
	p.gives(t, "out[a] x", "int@o", "none")
	p.gives(t, "out[abc] x", "int@o", "none")
	p.gives(t, "out[c] (1 / d)", "int@c", "c")
	p.gives(t, "out[ac] (1 / d; x)", "int@c", "c")
	p.refuses(t, "1; ^out[o] x", api.ErrFlow)
	p.refuses(t, "1; ^out[bc] x", api.ErrFlow)
	p.refuses(t, "1; ^out[a] (1 / d; 1)", api.ErrFlow)
	p.refuses(t, "out[abc] ^y", api.ErrType)
	p.refuses(t, "out[abc] ^(1, 2)", api.ErrType)
	place{"", "a", "b"}.gives(t, "out[ab] 1", "int@a", "none")
	place{"", "a", "b"}.refuses(t, "^out[a] 1", api.ErrFlow)
	place{"", "a", "b"}.refuses(t, "^out[b] 1", api.ErrFlow)
	place{"", "o", "b"}.refuses(t, "^out[a] 1", api.ErrFlow)
	place{"", "o", "c"}.refuses(t, "out[abc] ^out[a] 1", api.ErrFlow)
}

// TestRaise: ERaise.
func TestRaise(t *testing.T) {
	p := bottom("x: int@a; d: int@c; y: bool@o")
	p.gives(t, "raise[int@o] 1", "int@o", "o")
	p.gives(t, "raise[(int@b, bool@o)@c] x", "(int@b, bool@o)@ac", "a")
	p.gives(t, "raise[int@b] (1 / d)", "int@bc", "c")
	p.gives(t, "raise[[int@o -> int@o ! o, none]@b] (1 / d; x)", "[int@o -> int@o ! o, none]@abc", "ac")
	p.refuses(t, "raise[int@o] ^y", api.ErrType)
	place{"x: int@a", "b", "abc"}.gives(t, "raise[bool@o] x", "bool@ab", "ab")
	place{"", "b", "o"}.gives(t, "raise[bool@o] 1", "bool@b", "b")
	place{"", "o", "c"}.refuses(t, "raise[bool@o] ^out[a] 1", api.ErrFlow)
}

// TestTry: ETry, whose second Part stands behind the first.
func TestTry(t *testing.T) {
	p := bottom("x: int@a; d: int@c; y: bool@b; q: ref(int@o)@o; r: ref(int@c)@o")
	p.gives(t, "try 1 with e => 2 end", "int@o", "none")
	p.gives(t, "try 1 with e => e end", "int@o", "none")
	p.gives(t, "try x with e => 1 end", "int@a", "none")
	p.gives(t, "try 1 with e => x end", "int@a", "none")
	p.gives(t, "try 1 / d with e => x end", "int@ac", "none")
	p.gives(t, "try 1 / d with e => e end", "int@c", "none")
	p.gives(t, "try 1 / d; y with e => e < 1 end", "bool@bc", "none")
	p.gives(t, "try 1 / d with e => 1 / x end", "int@ac", "ac")
	p.gives(t, "try 1 with e => 1 / x end", "int@a", "a")
	p.gives(t, "try raise[int@o] x with e => raise[int@b] e end", "int@ab", "a")
	p.gives(t, "try 1 with x => x end", "int@o", "none")
	p.gives(t, "let v = try 1 / d with e => e end in out[o] 1", "int@o", "none")
	p.refuses(t, "try 1 / d with e => ^out[o] 1 end", api.ErrFlow)
	p.gives(t, "try 1 / d with e => out[c] e end", "int@c", "none")
	p.refuses(t, "1; ^try 1 with e => true end", api.ErrType)
	p.refuses(t, "1; ^try q with e => r end", api.ErrType)
	p.refuses(t, "(try 1 with e => e end) + ^e", api.ErrType)
	p.refuses(t, "try ^e with e => 1 end", api.ErrType)
	place{"d: int@c", "b", "o"}.gives(t, "try 1 / d with e => e end", "int@bc", "none")
	place{"d: int@c", "b", "o"}.gives(t, "try 1 with e => e end", "int@b", "none")
	place{"", "o", "c"}.refuses(t, "try ^out[a] 1 with e => e end", api.ErrFlow)
	place{"", "o", "c"}.refuses(t, "try 1 with e => ^out[a] e end", api.ErrFlow)
}

// TestSeq: ESeq.
func TestSeq(t *testing.T) {
	p := bottom("x: int@a; d: int@c; y: bool@b")
	p.gives(t, "x; y", "bool@b", "none")
	p.gives(t, "1 / d; y", "bool@bc", "c")
	p.gives(t, "y; 1 / d", "int@c", "c")
	p.gives(t, "1 / d; 1 / x; 1", "int@ac", "ac")
	p.gives(t, "(1 / d; 1 / x); true", "bool@ac", "ac")
	p.refuses(t, "1 / d; ^out[a] 1", api.ErrFlow)
	p.gives(t, "out[a] x; 1 / d", "int@c", "c")
	place{"y: bool@b", "a", "o"}.gives(t, "1; y", "bool@ab", "none")
	place{"", "o", "c"}.refuses(t, "^out[a] 1; 1", api.ErrFlow)
	place{"", "o", "c"}.refuses(t, "1; ^out[a] 1", api.ErrFlow)
}

// TestBin: EBin, of each Op.
func TestBin(t *testing.T) {
	p := bottom("x: int@a; z: int@b; d: int@c; y: bool@o; f: [int@abc -> int@o ! abc, c]@o")
	for _, sign := range []string{"+", "-", "*", "/", "%", "<", "=="} {
		kind, exc := "int", func(x string) string { return "none" }
		switch sign {
		case "<", "==":
			kind = "bool"
		case "/", "%":
			exc = func(x string) string { return x }
		}
		p.gives(t, "1 "+sign+" 2", kind+"@o", exc("o"))
		p.gives(t, "x "+sign+" 2", kind+"@a", exc("o"))
		p.gives(t, "1 "+sign+" z", kind+"@b", exc("b"))
		p.gives(t, "x "+sign+" z", kind+"@ab", exc("b"))
		place{"x: int@a; z: int@b", "c", "abc"}.gives(t, "x "+sign+" z", kind+"@abc", exc("bc"))
		p.refuses(t, "^y "+sign+" 1", api.ErrType)
		p.refuses(t, "1 "+sign+" ^y", api.ErrType)
		p.refuses(t, "^y "+sign+" y", api.ErrType)
		p.refuses(t, "1 "+sign+" ^(1, 2)", api.ErrType)
		place{"", "o", "c"}.refuses(t, "^out[a] 1 "+sign+" 1", api.ErrFlow)
		place{"", "o", "c"}.refuses(t, "1 "+sign+" ^out[a] 1", api.ErrFlow)
	}
	for _, sign := range []string{"+", "-", "*"} {
		p.gives(t, "f(1) "+sign+" x", "int@ac", "c")
		p.gives(t, "x "+sign+" f(1)", "int@ac", "c")
	}
	p.gives(t, "f(1) < 1", "bool@c", "c")
	p.gives(t, "1 == f(1)", "bool@c", "c")
	p.gives(t, "f(1) / x", "int@ac", "ac")
	p.gives(t, "x / f(1)", "int@ac", "c")
	p.gives(t, "x % (1 / z; 1)", "int@ab", "b")
	p.gives(t, "(1 / z) % 1", "int@b", "b")
	p.refuses(t, "f(1) + ^out[b] 1", api.ErrFlow)
}

// TestNot: ENot.
func TestNot(t *testing.T) {
	p := bottom("x: int@a; y: bool@b; d: int@c")
	p.gives(t, "not true", "bool@o", "none")
	p.gives(t, "not y", "bool@b", "none")
	p.gives(t, "not not (1 / d; y)", "bool@bc", "c")
	p.refuses(t, "not ^x", api.ErrType)
	p.refuses(t, "not ^(y, y)", api.ErrType)
	place{"y: bool@b", "a", "o"}.gives(t, "not y", "bool@ab", "none")
	place{"", "o", "c"}.refuses(t, "not (^out[a] 1 < 1)", api.ErrFlow)
}
