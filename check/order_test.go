package check_test

import (
	"reflect"
	"strings"
	"testing"

	"palisade/api"
	"palisade/check"
)

// TestOrder (P7.1): of two errors of one expression the one that is asked first is told: a Part is judged, then what its rule asks of it is asked, then the next Part is judged.
func TestOrder(t *testing.T) {
	p := place{"x: int@a; y: bool@o; f: [int@o -> int@o ! c, none]@o; q: ref(int@o)@c; k: (int@o, int@o)@o", "o", "o"}
	for _, text := range []string{
		"^v + w", "^y + v", "^v + y", "^y + y", "1 + ^v", "^y / v", "^y < v",
		"^x(v)", "^v(x)", "f(^v)", "^y(f(v))",
		"if ^x then v else w", "if ^v then w else 1", "if y then ^v else w", "if y then 1 else ^v", "if y then true else ^v", "if ^1 then 1 else true",
		"^x := v", "^v := x", "q := ^v",
		"(^v, w)", "(1, ^v)", "fst ^v", "not ^v", "!^v", "out[o] ^v", "raise[int@o] ^v", "new[int@o] ^v",
		"let a = ^v in w", "try ^v with e => w end", "try 1 with e => ^v end", "^v; w", "1; ^v",
		"fun f(n: int@o): int@o ! o, none => ^v", "try true with e => ^v end",
	} {
		p.refuses(t, text, api.ErrType)
	}
	for _, text := range []string{
		"f(^x)", "(^out[o] x; f)(x)", "f(^out[o] x)", "^out[o] x; v", "(^out[o] x) + y", "1 + ^out[o] x", "(^out[o] x, v)",
		"(^out[o] x)(v)", "q := ^x", "(^out[o] x) := v", "let a = ^out[o] x in v", "if ^out[o] x < 1 then v else w", "new[bool@o] ^out[o] x", "fst (^out[o] x, v)",
		"new[int@o] ^x", "fun g(n: int@o): int@o ! o, none => ^1 / x", "fun g(n: int@o): int@a ! o, none => (^out[o] x) / x", "try ^out[o] x with e => v end", "try 1 / x with e => ^out[o] 1; v end",
	} {
		p.refuses(t, text, api.ErrFlow)
	}
	// The second Part is asked ahead of the whole, also where the whole is wrong by what was known ahead.
	high := place{p.env, "o", "abc"}
	high.refuses(t, "f(^x)", api.ErrFlow)
	high.refuses(t, "f(^y)", api.ErrType)
	high.refuses(t, "^f(1)", api.ErrFlow)
	high.refuses(t, "q := ^x", api.ErrFlow)
	high.refuses(t, "q := ^y", api.ErrType)
	high.refuses(t, "^q := 1", api.ErrFlow)
	high.refuses(t, "out[o] ^y", api.ErrType)
	high.refuses(t, "fun g(n: int@o): bool@o ! o, none => ^1 / n", api.ErrType)
}

// at is e at that place.
func at(place int, e api.Expr) api.Expr {
	e.At = place
	return e
}

// TestPlaces (P7.1): what joins two, in a text, stands where the first one does: here each has a place of its own.
func TestPlaces(t *testing.T) {
	l := chain()
	env := []check.Bind{
		{Name: "x", Type: integer(1)}, {Name: "y", Type: boolean(0)}, {Name: "f", Type: funOf(0, integer(1), integer(0), 0, api.None)}, {Name: "g", Type: funOf(1, integer(1), integer(0), 0, api.None)},
		{Name: "r", Type: refOf(0, integer(0))}, {Name: "s", Type: refOf(1, integer(0))},
	}
	two := func(kind int, first, second string) api.Expr {
		e := api.Expr{Kind: kind, At: 70, Parts: []api.Expr{at(80, name(first)), at(-90, name(second))}}
		if kind == api.EBin {
			e.N = api.OpAdd
		}
		if kind == api.EPair || kind == api.ESeq {
			e.At = 1 << 40
		}
		return e
	}
	for _, c := range []struct {
		e     api.Expr
		pc    int
		place int
		err   api.Errno
	}{
		{two(api.ECall, "x", "x"), 0, 80, api.ErrType}, {two(api.ECall, "f", "y"), 0, -90, api.ErrType}, {two(api.ECall, "g", "x"), 0, 70, api.ErrFlow}, {two(api.ECall, "f", "x"), 1, 70, api.ErrFlow},
		{two(api.ESet, "x", "x"), 0, 80, api.ErrType}, {two(api.ESet, "r", "y"), 0, -90, api.ErrType}, {two(api.ESet, "r", "x"), 0, -90, api.ErrFlow},
		{two(api.EBin, "y", "y"), 0, 80, api.ErrType}, {two(api.EBin, "x", "y"), 0, -90, api.ErrType},
		{two(api.ESeq, "v", "y"), 0, 80, api.ErrType}, {two(api.ESeq, "x", "v"), 0, -90, api.ErrType}, {two(api.EPair, "x", "v"), 0, -90, api.ErrType},
		{at(5, expr(api.ESet, at(6, name("s")), at(7, number(1)))), 0, 5, api.ErrFlow},
	} {
		got, x, place, err := check.Judge(l, env, c.pc, 0, c.e)
		if err != c.err || place != c.place || x != api.None || !reflect.DeepEqual(got, api.Type{}) {
			t.Errorf("%+v: %v, %d, %d, %d; want %d, %d", c.e, got, x, place, err, c.place, c.err)
		}
	}
}

// refText is the text of a type so deep, of Refs alone and an Int.
func refText(deep int) string {
	return strings.Repeat("ref(", deep-1) + "int" + strings.Repeat("@o)", deep-1) + "@o"
}

// pairText is the text of a type of so many nodes, an odd number, no deeper than it must be.
func pairText(nodes int) string {
	if nodes == 1 {
		return "int@o"
	}
	half := (nodes - 1) / 2
	if half%2 == 0 {
		half--
	}
	return "(" + pairText(half) + ", " + pairText(nodes-1-half) + ")@o"
}

// twenty is the text of a type of 20 nodes, no deeper than one of 19.
func twenty() string {
	return "(ref(" + pairText(7) + ")@o, " + pairText(11) + ")@o"
}

// TestLimit (P7.1): a T that is too deep, or has too many nodes, is refused where it is made.
func TestLimit(t *testing.T) {
	p := bottom("deep: " + refText(6) + "; five: " + refText(5) + "; x: int@a; y: bool@o; wide: " + pairText(19) + "; more: " + twenty() + "; odd: " + pairText(21))
	p.gives(t, "(five, 1)", "("+refText(5)+", int@o)@o", "none")
	p.gives(t, "(1, five)", "(int@o, "+refText(5)+")@o", "none")
	p.gives(t, "new["+refText(5)+"] five", refText(6), "none")
	p.gives(t, "deep", refText(6), "none")
	p.gives(t, "if y then deep else deep", refText(6), "none")
	p.gives(t, "fun f(n: "+refText(5)+"): int@o ! o, none => 1", "["+refText(5)+" -> int@o ! o, none]@o", "none")
	p.gives(t, "!(new["+refText(5)+"] five)", refText(5), "none")
	for _, text := range []string{
		"1; ^(deep, 1)", "1; ^(1, deep)", "1; ^new[" + refText(6) + "] deep", "fst ^(deep, 1)", "let v = ^(deep, 1) in v(1)", "(^(deep, 1), v)", "(^(deep, 1))(v)",
		"1; ^fun f(n: " + refText(6) + "): int@o ! o, none => 1", "1; ^fun f(n: int@o): " + refText(6) + " ! o, none => 1", "1; ^fun f(n: int@o): " + refText(6) + " ! o, none => v",
		"1; ^fun f(n: int@o): " + refText(6) + " ! o, none => (deep, 1)", "1; ^fun f(f: " + refText(6) + "): int@o ! o, none => 1 / 1",
		"1; ^(odd, wide)", "1; ^(wide, odd)", "1; ^(more, more)", "1; ^fun f(n: " + pairText(21) + "): " + pairText(19) + " ! o, none => v",
	} {
		p.refuses(t, text, api.ErrLimit)
	}
	p.gives(t, "(wide, more)", "("+pairText(19)+", "+twenty()+")@o", "none")
	p.refuses(t, "(deep, ^v)", api.ErrType)
	p.refuses(t, "(^v, deep)", api.ErrType)
	p.refuses(t, "new["+refText(6)+"] ^x", api.ErrType)
	p.refuses(t, "new["+refText(6)+"] ^v", api.ErrType)
	raised := func(deep int) string { return strings.TrimSuffix(refText(deep), "o") + "a" }
	high := place{p.env, "a", "o"}
	high.gives(t, "new["+raised(5)+"] five", "ref("+raised(5)+")@a", "none")
	high.refuses(t, "^new["+raised(6)+"] deep", api.ErrLimit)
	high.refuses(t, "new["+refText(6)+"] ^deep", api.ErrFlow)
}
