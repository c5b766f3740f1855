package eval_test

import (
	"strconv"
	"testing"

	"palisade/api"
	"palisade/eval"
)

// TestFun (P9.1): functions' numbers, and what they have captured.
func TestFun(t *testing.T) {
	tells(t, integer(4), nil, map[string]string{
		"fun f(n) n":                  "returned f1[],,, 1",
		"fun f(n) x":                  "returned f1[4],,, 1",
		"fun f(n) y":                  "returned f1[],,, 1",
		"fun f(x) x":                  "returned f1[],,, 1",
		"let y = 5 in fun f(n) y + x": "returned f1[4 5],,, 2",
		"let y = 5 in let x = 6 in fun f(n) x + y":                  "returned f1[5 6],,, 3",
		"let y = 5 in let z = 7 in let y = 6 in fun f(n) y + z + x": "returned f1[4 7 6],,, 4",
		"let f = fun f(n) x in let x = 1 in fun g(n) f(x)":          "returned f2[f1[4] 1],,, 3",
		"try raise 8 with e => fun f(n) e + x end":                  "returned f1[4 8],,, 3",
		"(fun f(n) x, (fun g(n) n, fun h(n) x))":                    "returned p[f1[4] p[f2[] f3[4]]],,, 5",
		"1; if x < 1 then fun f(n) n else fun g(n) n":               "returned f2[],,, 6",
		"out 1; fun f(n) out n":                                     "returned f1[], 1,, 3",
	})
}

// TestCall (P9.1): what has values within a function: what it captured, its name, its argument's, and nothing else.
func TestCall(t *testing.T) {
	tells(t, integer(4), nil, map[string]string{
		"(fun f(n) n + x)(6)":                                                      "returned 10,,, 6",
		"(fun f(n) f)(6)":                                                          "returned f1[],,, 4",
		"(fun f(n) (f, x))(6)":                                                     "returned p[f1[4] 4],,, 6",
		"(fun f(n) fun g(m) m - n)(1)(9)":                                          "returned 8,,, 9",
		"let y = 1 in (fun f(n) z)(6)":                                             "stuck,,, 5",
		"let g = (let z = 5 in fun f(n) z) in g(0)":                                "returned 5,,, 6",
		"let g = (let z = 5 in fun f(n) z) in (z, g(0))":                           "stuck,,, 3",
		"let g = fun f(n) z in let z = 5 in g(0)":                                  "stuck,,, 6",
		"let z = 5 in let g = fun f(n) y in let y = z in g(0)":                     "stuck,,, 7",
		"(fun f(n) new n)(6)":                                                      "returned r0,, 6, 5",
		"let r = new 0 in let g = fun f(n) r := ! r + n in g(3); g(5); ! r":        "returned 8,, 8, 23",
		"(out 1; fun f(n) out n)(out 2; 3)":                                        "returned 0, 1 2 3,, 9",
		"let twice = fun f(g) fun h(n) g(g(n)) in twice(twice(fun i(n) n * x))(1)": "returned 256,,, 37",
	})
}

// TestSelf (P9.1): a function that calls itself.
func TestSelf(t *testing.T) {
	tells(t, integer(4), nil, map[string]string{
		"(fun f(n) if n < 1 then 0 else f(n - 1))(2)":                                             "returned 0,,, 26",
		"(fun f(n) if n < 1 then 1 else n * f(n - 1))(5)":                                         "returned 120,,, 63",
		"(fun f(n) if n < 2 then n else f(n - 1) + f(n - 2))(x)":                                  "returned 3,,, 88",
		"(fun f(n) if n < 1 then x else f(n - 1))(5)":                                             "returned 4,,, 53",
		"(fun f(n) if n < 1 then 0 else (out n; f(n - 1)))(3)":                                    "returned 0, 3 2 1,, 41",
		"(fun f(n) f(n))(2)":                                                                      "out of fuel,,, 65536",
		"let r = new (fun f(n) n) in r := (fun g(n) if n < 1 then 7 else (! r)(n - 1)); (! r)(2)": "returned 7,, f2[r0], 34",
	})
}

// TestNumbers (P9.1, P9.2): functions within functions: each ahead of those within it.
func TestNumbers(t *testing.T) {
	tells(t, integer(4), nil, map[string]string{
		"fun f(n) fun g(m) fun h(k) k":                           "returned f1[],,, 1",
		"(fun f(n) fun g(m) fun h(k) k)(1)":                      "returned f2[],,, 4",
		"(fun f(n) fun g(m) fun h(k) k)(1)(2)":                   "returned f3[],,, 7",
		"(fun f(n) fun g(m) fun h(k) k + m + n + x)(1)(2)":       "returned f3[4 1 2],,, 7",
		"(fun f(n) (fun g(m) m, fun h(k) f))(1)":                 "returned p[f2[] f3[f1[]]],,, 6",
		"(fun f(n) fun g(m) m, fun h(k) fun i(k) k)":             "returned p[f1[] f3[]],,, 3",
		"((fun f(n) fun g(m) m)(1), (fun h(k) fun i(k) h)(2))":   "returned p[f2[] f4[f3[]]],,, 9",
		"let y = (fun f(n) n)(1) in (fun g(n) n)(2); fun h(n) y": "returned f3[1],,, 9",
	})
	for text, want := range map[string]int{
		"1": 0, "x + y": 0, "fun f(n) n": 1, "(fun f(n) n)(fun g(n) n)": 2, "fun f(n) fun g(m) fun h(k) k": 3,
		"if (fun f(n) n)(1) then fun g(n) fun h(m) m else fun h(n) z": 4, "try fun f(n) n with e => fun f(n) n end; fun f(n) n": 3,
	} {
		if got := eval.Numbers(program(t, text).Body); got != want {
			t.Errorf("%s: %d; want %d", text, got, want)
		}
	}
}

// row is the ESeq of all these, in a tree that isn't deep.
func row(all ...api.Expr) api.Expr {
	if len(all) == 1 {
		return all[0]
	}
	return expr(api.ESeq, row(all[:len(all)/2]...), row(all[len(all)/2:]...))
}

// TestManyFunctions (P9.1): more functions than a formed Fun's number tells; their numbers go on.
func TestManyFunctions(t *testing.T) {
	var all []api.Expr
	for i := range 500 {
		all = append(all, function("f", "n", number(int64(i))))
	}
	for _, count := range []int{59, 60, 61, 500} {
		body := row(all[:count]...)
		line := "returned f" + strconv.Itoa(count) + "[],,, " + strconv.Itoa(count)
		tellsOne(t, around(body), integer(4), nil, api.MaxSteps, line)
		if got := eval.Numbers(body); got != count {
			t.Errorf("%d functions: %d", count, got)
		}
		line = "returned " + strconv.Itoa(count-1) + ",,, " + strconv.Itoa(count+3)
		tellsOne(t, around(expr(api.ECall, body, number(1))), integer(4), nil, api.MaxSteps, line)
	}
}

// TestSharedFunctions (P9.1): expressions that share memory have functions of unlike numbers.
func TestSharedFunctions(t *testing.T) {
	f := function("f", "n", function("g", "m", name("n")))
	both := expr(api.EPair, expr(api.ECall, f, number(1)), expr(api.ECall, f, number(2)))
	tellsOne(t, around(both), integer(4), nil, 100, "returned p[f2[1] f4[2]],,, 9")
	parts := []api.Expr{f, f}
	tellsOne(t, around(api.Expr{Kind: api.EPair, Parts: []api.Expr{{Kind: api.EPair, Parts: parts}, {Kind: api.EPair, Parts: parts}}}), integer(4), nil, 100, "returned p[p[f1[] f3[]] p[f5[] f7[]]],,, 7")
}

// TestNumbersUnformed (P9.2): of expressions that aren't formed, too.
func TestNumbersUnformed(t *testing.T) {
	f := function("f", "n", number(1))
	odd := api.Expr{Kind: api.EFun, Parts: []api.Expr{f, {Kind: 77, Parts: []api.Expr{f, f, number(-1)}}, {Kind: api.EVar, Parts: []api.Expr{f}}}}
	if got := eval.Numbers(odd); got != 5 {
		t.Error(got)
	}
	if eval.Numbers(api.Expr{}) != 0 || eval.Numbers(api.Expr{Kind: api.EFun}) != 1 {
		t.Error("no Kind, or no Parts")
	}
}

// TestNumbersDeep (P9.2): as deep as layer 8 tells a Table of, and deeper: of functions within functions, and of one within other nodes.
func TestNumbersDeep(t *testing.T) {
	for _, deep := range []int{1, 2, api.MaxNest - 2, api.MaxNest - 1, api.MaxNest, api.MaxNest + 1, 100, 5000} {
		nested, one, last := number(1), function("f", "n", number(0)), function("f", "n", number(0))
		for range deep {
			nested = function("f", "n", nested)
			one = expr(api.ENot, one)
			last = expr(api.EPair, function("g", "m", number(1)), last)
		}
		if got := eval.Numbers(nested); got != deep {
			t.Errorf("%d functions, one in the other: %d", deep, got)
		}
		if got := eval.Numbers(one); got != 1 {
			t.Errorf("a function %d deep: %d", deep, got)
		}
		if got := eval.Numbers(last); got != deep+1 {
			t.Errorf("a function beside each of %d nodes: %d", deep, got)
		}
	}
}

// TestNumbersMany (P9.2): as many nodes as layer 8 tells a Table of, and more, in memory of their own or not.
func TestNumbersMany(t *testing.T) {
	for _, many := range []int{1, api.MaxTokens / 2, api.MaxTokens - 2, api.MaxTokens - 1, api.MaxTokens, api.MaxTokens + 1, 50_000} {
		bare, full, others := make([]api.Expr, many), make([]api.Expr, many), make([]api.Expr, many)
		f := function("f", "n", number(1))
		for i := range many {
			bare[i], full[i], others[i] = api.Expr{Kind: api.EFun}, f, number(1)
		}
		if got := eval.Numbers(expr(api.ESeq, bare...)); got != many {
			t.Errorf("%d functions without Parts: %d", many, got)
		}
		if got := eval.Numbers(expr(api.ESeq, full...)); got != many {
			t.Errorf("%d functions that share a Part: %d", many, got)
		}
		if got := eval.Numbers(expr(api.ESeq, append(others, f)...)); got != 1 {
			t.Errorf("a function behind %d others: %d", many, got)
		}
	}
}

// TestNumbersShared (P9.2): a function counts in each place where it stands, whatever memory these share.
func TestNumbersShared(t *testing.T) {
	e := function("f", "n", number(1))
	for deep := range 62 {
		if got := eval.Numbers(e); got != 1<<deep {
			t.Errorf("%d deep: %d", deep, got)
		}
		e = expr(api.EPair, e, e)
	}
}
