package eval_test

import (
	"testing"

	"palisade/api"
	"palisade/syntax"
)

// unformed are programs that aren't formed, each but for one thing like one that is.
func unformed(t *testing.T) map[string]api.Program {
	all := map[string]api.Program{"zero": {}}
	change := func(what string, how func(p *api.Program)) {
		p := program(t, "out x; x + 1")
		how(&p)
		if syntax.Formed(p) {
			t.Error("formed:", what)
		}
		all[what] = p
	}
	change("no label", func(p *api.Program) { p.Lattice = api.Lattice{} })
	change("no order", func(p *api.Program) { p.Lattice.Order = nil })
	change("a name of no runes", func(p *api.Program) { p.Arg = "" })
	change("a keyword", func(p *api.Program) { p.Arg = "let" })
	change("no Param", func(p *api.Program) { p.Param = api.Type{} })
	change("no Result", func(p *api.Program) { p.Result = api.Type{} })
	change("a label of a Param", func(p *api.Program) { p.Param.Label = 2 })
	change("an exc", func(p *api.Program) { p.Exc = 2 })
	change("a negative exc", func(p *api.Program) { p.Exc = -2 })
	for what, body := range unformedBodies() {
		change(what, func(p *api.Program) { p.Body = body })
		change(what+" within", func(p *api.Program) { p.Body = expr(api.ESeq, number(1), body) })
		// It isn't come to.
		change(what+" in a function", func(p *api.Program) { p.Body = function("f", "n", body) })
	}
	return all
}

func unformedBodies() map[string]api.Expr {
	deep, wide := number(1), make([]api.Expr, 1000)
	for range api.MaxNest {
		deep = expr(api.ENot, deep)
	}
	for i := range wide {
		wide[i] = expr(api.ENot, number(1))
	}
	return map[string]api.Expr{
		"no Kind": {}, "a Kind": {Kind: api.ENot + 1}, "a negative Kind": {Kind: -1},
		"a negative number": number(-1), "a bool": {Kind: api.EBool, N: 2}, "an EVar": name(""), "an EVar of a keyword": name("in"),
		"an EInt of Parts": expr(api.EInt, number(1)), "an ELet of one": {Kind: api.ELet, Text: "y", Parts: []api.Expr{number(1)}}, "an EIf of two": expr(api.EIf, number(1), number(2)),
		"an EIf of four": expr(api.EIf, number(1), number(2), number(3), number(4)), "an ECall of one": expr(api.ECall, number(1)), "an EPair of three": expr(api.EPair, number(1), number(2), number(3)),
		"an EFun of none": {Kind: api.EFun, Text: "f", Arg: "n", Type: api.Type{Kind: api.Int}, Give: api.Type{Kind: api.Int}}, "an EFun of no types": {Kind: api.EFun, Text: "f", Arg: "n", Parts: []api.Expr{number(1)}},
		"an ENew of no type": expr(api.ENew, number(1)), "an EOut of no label": {Kind: api.EOut, N: 2, Parts: []api.Expr{number(1)}}, "an EOut of a negative one": {Kind: api.EOut, N: -1, Parts: []api.Expr{number(1)}},
		"an EBin of no op": expr(api.EBin, number(1), number(2)), "an EBin of another": {Kind: api.EBin, N: api.OpNot, Parts: []api.Expr{number(1), number(2)}},
		"a Text": {Kind: api.EInt, Text: "x"}, "an M": {Kind: api.EInt, M: 1}, "too deep": deep, "too wide": row(wide...),
	}
}

// TestUnformedProgram (P9.1): Stuck with nothing else.
func TestUnformedProgram(t *testing.T) {
	for what, p := range unformed(t) {
		for _, fuel := range []int{0, 100, api.MaxSteps} {
			t.Run(what, func(t *testing.T) { refuses(t, p, integer(4), cells(integer(1)), fuel) })
		}
	}
}

// unformedValues aren't formed.
func unformedValues() []api.Value {
	ring := make([]api.Value, 2)
	ring[0], ring[1] = api.Value{Kind: api.Pair, Parts: ring}, integer(1)
	all := []api.Value{
		{}, {Kind: 6}, {Kind: -1}, boolean(2), boolean(-1), fun(-1), fun(api.MaxFuncs), ref(-1), ref(1 << 31), sized(api.MaxValue + 1), ring[0],
		{Kind: api.Int, Parts: []api.Value{integer(1)}}, {Kind: api.Pair}, {Kind: api.Pair, Parts: []api.Value{integer(1)}}, {Kind: api.Pair, N: 1, Parts: []api.Value{integer(1), integer(2)}},
		{Kind: api.Pair, Parts: []api.Value{integer(1), integer(2), integer(3)}}, {Kind: api.Ref, Parts: []api.Value{integer(1)}},
	}
	for _, v := range all {
		all = append(all, fun(3, integer(1), v))
	}
	return all
}

// TestUnformedValues (P9.1): arguments and cells' values; what the run needs of them isn't asked.
func TestUnformedValues(t *testing.T) {
	p := program(t, "out 1; 2")
	for _, v := range unformedValues() {
		for _, fuel := range []int{0, 100} {
			refuses(t, p, v, nil, fuel)
			refuses(t, p, integer(4), cells(v), fuel)
			refuses(t, p, integer(4), cells(integer(1), v, integer(2)), fuel)
			refuses(t, p, integer(4), append(cells(make([]api.Value, 3)...), cells(v)...), fuel)
		}
	}
	// Of a cell only its value is asked: its Type may be anything, and needs not be the value's.
	tellsOne(t, p, integer(4), []api.Cell{{Value: boolean(1)}, {Type: api.Type{Kind: api.Fun}, Value: integer(2)}}, 100, "returned 2, 1, true 2, 3")
}

// TestUntyped (P9.1): a name that has no value, and values of another kind than is asked for.
func TestUntyped(t *testing.T) {
	tells(t, integer(4), nil, map[string]string{
		"y": "stuck,,, 1", "let y = y in 1": "stuck,,, 1", "(let y = 1 in y) + y": "stuck,,, 3", "(try 1 with e => e end) + e": "stuck,,, 2",
		"(fun f(n) n)(1) + n": "stuck,,, 5", "(fun f(n) n)(1); f": "stuck,,, 5", "try e with e => e end": "stuck,,, 1", "f(out 1)": "stuck,,, 1",
	})
	values := map[string]api.Value{"int": integer(1), "bool": boolean(1), "pair": pair(integer(1), integer(2)), "fun": fun(1), "ref": ref(0)}
	for text, c := range map[string]struct {
		wants string
		steps int
	}{
		"if x then fun h(n) n else 3": {"bool", 2}, "x(5); fun h(n) n": {"fun", 3}, "fst x; fun h(n) n": {"pair", 2}, "snd x; fun h(n) n": {"pair", 2}, "! x; fun h(n) n": {"ref", 2}, "x := 5; fun h(n) n": {"ref", 3},
		"out x; fun h(n) n": {"int", 2}, "out[high] x; fun h(n) n": {"int", 2}, "raise x; fun h(n) n": {"int", 2}, "not x; fun h(n) n": {"bool", 2},
		"x + 1; fun h(n) n": {"int", 3}, "1 - x; fun h(n) n": {"int", 3}, "x * x; fun h(n) n": {"int", 3}, "1 / x; fun h(n) n": {"int", 3}, "x % 1; fun h(n) n": {"int", 3}, "x < 1; fun h(n) n": {"int", 3}, "1 < x; fun h(n) n": {"int", 3},
		"x == x; fun h(n) n": {"int", 3}, "x / 0; fun h(n) n": {"int", 3},
	} {
		for kind, v := range values {
			o := question{program(t, text), v, cells(integer(9)), 100}.run()
			if stuck := o.Kind == api.Stuck; stuck == (kind == c.wants) {
				t.Errorf("%s given a %s: %s", text, kind, told(o))
			}
			if kind != c.wants {
				tellsOne(t, program(t, text), v, cells(integer(9)), c.steps, "stuck,, 9, "+string(rune('0'+c.steps)))
				tellsOne(t, program(t, text), v, cells(integer(9)), c.steps-1, "out of fuel,, 9, "+string(rune('0'+c.steps-1)))
			}
		}
	}
}

// TestNoCell (P9.1): a Ref of no cell, by the argument and by a cell; one that is made later is a cell then.
func TestNoCell(t *testing.T) {
	for _, n := range []int64{2, 3, 1 << 20, 1<<31 - 1} {
		tells(t, ref(n), cells(integer(1), ref(n)), map[string]string{
			"! x": "stuck,, 1 ^" + text(ref(n)) + ", 2", "x := 5": "stuck,, 1 ^" + text(ref(n)) + ", 3", "x := (out 1; 5)": "stuck, 1, 1 ^" + text(ref(n)) + ", 5",
		})
	}
	tells(t, ref(1), cells(integer(1), ref(2)), map[string]string{
		"! ! x":             "stuck,, 1 ^r2, 3",
		"(! x) := 1":        "stuck,, 1 ^r2, 4",
		"new 7; ! ! x":      "returned 7,, 1 ^r2 7, 5",
		"new 7; (! x) := 8": "returned 0,, 1 ^r2 8, 6",
		"(! x) := new 8":    "returned 0,, 1 ^r2 r2, 5",
	})
	tells(t, ref(0), nil, map[string]string{"! x": "stuck,,, 2", "x := 1": "stuck,,, 3", "x := new 1": "returned 0,, r0, 4"})
}

// TestStrangeFun (P9.1): a Fun of no function's number, or with another number of values than its function captures, by the argument and by a cell; of others the values are what comes in.
func TestStrangeFun(t *testing.T) {
	// The function 1 captures nothing, 2 captures y, 3 captures x and y.
	text := "let y = 5 in (fun f(n) n, (fun g(n) (n, (g, y)), fun h(n) (y, x))); x(6)"
	for arg, end := range map[string]struct {
		v    api.Value
		line string
	}{
		"0": {fun(0), "stuck,,, 9"}, "4": {fun(4), "stuck,,, 9"}, "59": {fun(59), "stuck,,, 9"}, "0 with a value": {fun(0, integer(1)), "stuck,,, 9"},
		"1": {fun(1), "returned 6,,, 10"}, "1 with one": {fun(1, integer(7)), "stuck,,, 9"},
		"2 with none": {fun(2), "stuck,,, 9"}, "2": {fun(2, integer(7)), "returned p[6 p[f2[7] 7]],,, 14"}, "2 with two": {fun(2, integer(7), integer(8)), "stuck,,, 9"},
		"3 with one": {fun(3, integer(7)), "stuck,,, 9"}, "3": {fun(3, integer(7), boolean(1)), "returned p[true 7],,, 12"}, "3 with three": {fun(3, integer(7), integer(8), integer(9)), "stuck,,, 9"},
	} {
		t.Run(arg, func(t *testing.T) {
			tellsOne(t, program(t, text), end.v, nil, 100, end.line)
			tellsOne(t, program(t, text), end.v, nil, 8, "out of fuel,,, 8")
		})
	}
	tells(t, ref(0), cells(fun(1, integer(3)), fun(1), fun(7)), map[string]string{
		"(! x)(2); fun f(n) n":                       "stuck,, f1[3] ^f1[] f7[], 4",
		"(! x)(2); fun f(n) x":                       "returned f1[r0],, f1[3] ^f1[] f7[], 6",
		"(! x)(2); fun f(n) x + n":                   "returned f1[r0],, f1[3] ^f1[] f7[], 8",
		"let y = 1 in (! x)(2); fun f(n) n + y":      "returned f1[1],, f1[3] ^f1[] f7[], 9",
		"let y = (! x)(2) in (fun f(n) n + x)":       "returned f1[r0],, f1[3] ^f1[] f7[], 8",
		"let y = true in (fun f(n) not y); (! x)(2)": "stuck,, f1[3] ^f1[] f7[], 8",
		"let y = 5 in (! x)(fun f(n) (f, (y, n)))":   "returned p[f1[3] p[3 f1[5]]],, f1[3] ^f1[] f7[], 10",
	})
}
