package free_test

import (
	"testing"

	"palisade/api"
	"palisade/free"
)

// TestNames (P8.1): each name once, in the order in which it first stands there.
func TestNames(t *testing.T) {
	for text, want := range map[string]string{
		"1": "", "true": "", "x": "x", "yy": "yy",
		"b + a + b": "b a", "a + b * a; c": "a b c", "c + b + a": "c b a",
		"if a then b else c": "a b c", "a(b)": "a b", "(b, a)": "b a", "fst a": "a", "snd a": "a", "not a": "a",
		"new[int@low] a": "a", "! a": "a", "a := b": "a b", "out[low] a": "a", "raise[int@low] a": "a", "a < b": "a b",
	} {
		wantNames(t, body(t, text), want)
	}
}

// TestNamesHidden (P8.1): what an ELet's and an ETry's second Part hides, and what their first Part has free; an EFun's two names.
func TestNamesHidden(t *testing.T) {
	for text, want := range map[string]string{
		"let y = x in y + z": "x z", "let y = 1 in y": "", "let y = y in 1": "y", "let y = y in y": "y", "let y = a in b": "a b",
		"let y = 1 in y; z":                   "z",
		"(let y = 1 in y) + y":                "y",
		"y + (let y = 1 in y + z)":            "y z",
		"let y = b + a in a + c":              "b a c",
		"let y = 1 in let x = y in x + y + z": "z",
		"let y = (let y = y in z) in y":       "y z",
		"let y = (let z = y in z) in z":       "y z",

		"try a with e => e + b end": "a b", "try e with e => 1 end": "e", "try 1 with e => e end": "", "try e with e => e end": "e",
		"(try 1 with e => e end) + e": "e", "try b with e => a + e + b end": "b a",
		"try try e with x => x + y end with y => y + x end": "e y x",

		"fun f(n) f(n) + y": "y", "fun f(n) f": "", "fun f(n) n": "", "fun f(n) 1": "", "fun f(f) f + n": "n",
		"(fun f(n) f(n))(f)": "f", "n + (fun f(n) n + f)": "n",
		"fun f(n) fun g(m) f + g + n + m + x": "x",
		"fun f(n) (fun g(m) y) + g + m":       "y g m",
		"fun f(n) let y = n in y + z":         "z",
		"let f = 1 in fun g(n) f + g + y":     "y",
	} {
		wantNames(t, body(t, text), want)
	}
}

// TestNamesUnformed (P8.1, P8.3): an EVar with Parts; an ELet, an ETry and an EFun of any number of Parts; Kinds that are none; the empty name.
func TestNamesUnformed(t *testing.T) {
	wantNames(t, binder(api.EVar, "b", names("a", "b", "c")...), "b a c")
	wantNames(t, binder(api.EVar, "a", expr(api.EPair, names("b", "a")...)), "a b")
	wantNames(t, binder(api.EVar, "a", binder(api.ELet, "a", name("c"), name("a"))), "a c")
	for _, kind := range []int{api.ELet, api.ETry} {
		wantNames(t, binder(kind, "a"), "")
		wantNames(t, binder(kind, "a", name("a")), "a")
		wantNames(t, binder(kind, "a", name("b")), "b")
		wantNames(t, binder(kind, "a", names("b", "a", "c")...), "b c")
		wantNames(t, binder(kind, "a", names("b", "c", "a")...), "b c")
		wantNames(t, binder(kind, "a", names("a", "a", "a", "a", "b")...), "a b")
		wantNames(t, binder(kind, "", names("a", "", "b", "")...), "a b")
		wantNames(t, binder(kind, "", names("", "b")...), "- b")
		// An Arg hides nothing there.
		wantNames(t, api.Expr{Kind: kind, Text: "a", Arg: "b", Parts: names("1", "a", "b")}, "1 b")
	}
	wantNames(t, function("f", "a"), "")
	wantNames(t, function("f", "a", names("a", "b", "f", "c", "b", "a")...), "b c")
	wantNames(t, function("", "a", names("", "a", "b")...), "b")
	wantNames(t, function("f", "", names("", "f", "b")...), "b")
	wantNames(t, function("f", "a", names("", "f", "a")...), "-")
	wantNames(t, name(""), "-")
	wantNames(t, expr(api.EPair, names("a", "", "a")...), "a -")
	for _, kind := range []int{-1, 0, api.EInt, api.EBool, api.EIf, api.ECall, api.ENot, api.ENot + 1, 1 << 40} {
		// Neither a Text nor an Arg means anything there.
		wantNames(t, api.Expr{Kind: kind, Text: "a", Arg: "b", Parts: names("c", "a", "b", "c")}, "c a b")
		wantNames(t, api.Expr{Kind: kind, Text: "a", Arg: "b"}, "")
	}
}

// TestStands (P8.1): names that begin alike, and other ways to write one.
func TestStands(t *testing.T) {
	e := body(t, "let ab = a in ab + abc")
	for n, want := range map[string]bool{"a": true, "abc": true, "ab": false, "abcd": false, "A": false, "a ": false, "": false, "\xff": false} {
		if free.Stands(e, n) != want {
			t.Errorf("%q: %v", n, !want)
		}
	}
	if !free.Stands(name("\xff"), "\xff") || free.Stands(name("\xff"), "\ufffd") {
		t.Error("names are told apart byte by byte")
	}
}

// TestCaptures (P8.1): each name once, in the order in which the last one of each stands in the scope.
func TestCaptures(t *testing.T) {
	for _, c := range []struct{ scope, text, want string }{
		{"y x y", "fun f(x) f(x) + y", "y"},
		{"y x y z", "fun f(n) y + x", "x y"},
		{"y x y z", "fun f(n) x + y", "x y"},
		{"x y", "fun f(n) y + x", "x y"},
		{"y x", "fun f(n) x + y", "y x"},
		{"x y x y x", "fun f(n) x + y", "y x"},
		{"x x x", "fun f(n) x + x", "x"},
		{"a b c a b", "fun f(n) c + b + a", "c a b"},
		{"a b c", "fun f(n) b", "b"},
		{"a b c", "fun f(n) z + b", "b"},
		{"a b c", "fun f(n) z", ""},
		{"f n", "fun f(n) f + n", ""},
		{"f n x", "fun f(n) f + n + x", "x"},
		{"", "fun f(n) x", ""},
		{"x", "fun f(n) 1", ""},
		{"x y g m", "fun f(n) (fun g(m) x + m + g) + m", "x m"},
		{"x y e", "fun f(n) try y with e => e end", "y"},
	} {
		wantCaptures(t, c.scope, body(t, c.text), c.want)
	}
}

// TestCapturesUnformed (P8.1, P8.3): functions of any number of Parts, and the empty name.
func TestCapturesUnformed(t *testing.T) {
	wantCaptures(t, "a b c", function("f", "a"), "")
	wantCaptures(t, "a b c", function("f", "a", names("c", "a", "b")...), "b c")
	wantCaptures(t, "- a -", function("f", "a", names("", "a")...), "-")
	wantCaptures(t, "- a -", function("", "b", names("", "a")...), "a")
	wantCaptures(t, "- a - b", function("f", "", names("", "a", "b")...), "a b")
	// What is no function has names that are free, too.
	wantCaptures(t, "a b a c", expr(api.EPair, names("a", "b", "d")...), "b a")
}

// TestClosed (P8.2): all names, some and none of them in the scope.
func TestClosed(t *testing.T) {
	for _, c := range []struct {
		scope, text string
		want        bool
	}{
		{"y x", "fun f(n) y + x", true}, {"y", "fun f(n) y + x", false}, {"x", "fun f(n) y + x", false}, {"", "fun f(n) y + x", false},
		{"f n", "fun f(n) y + x", false}, {"x z y z", "y + x", true}, {"x x x", "x", true}, {"x x", "x + y", false}, {"y y x x", "x + y + x", true},
		{"", "1", true}, {"", "fun f(n) f(n)", true}, {"", "let y = 1 in y", true}, {"", "let y = y in 1", false}, {"y", "let y = y in y", true},
		{"", "try 1 with e => e end", true}, {"", "try e with e => e end", false}, {"e", "try e with e => e end", true},
		{"xx", "x", false}, {"x", "xx", false},
	} {
		if free.Closed(words(c.scope), body(t, c.text)) != c.want {
			t.Errorf("%q: %s: %v", c.scope, c.text, !c.want)
		}
	}
	if free.Closed(nil, name("")) || !free.Closed([]string{""}, name("")) || !free.Closed(nil, api.Expr{}) || !free.Closed([]string{"a", ""}, binder(api.EVar, "", name("a"))) {
		t.Error("what isn't formed")
	}
}
