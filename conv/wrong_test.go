package conv_test

import (
	"slices"
	"strings"
	"testing"

	"palisade/api"
	"palisade/check"
	"palisade/conv"
)

// refused holds that p has that error at that place, and no functions and Caps.
func refused(t *testing.T, p api.Program, place int, err api.Errno) {
	t.Helper()
	if fns, at, e := conv.Convert(p); len(fns) != 0 || at != place || e != err {
		t.Errorf("%s: %d functions, %d, error %d; want %d, error %d", printed(p), len(fns), at, e, place, err)
	}
	if caps := conv.Caps(p); len(caps) != 0 {
		t.Errorf("%s: %v", printed(p), caps)
	}
}

// TestRefused (P11.1, P11.2): programs that layer 7 refuses, by each of its errors; the place is where the mark ^ stands, which is taken out of the text.
func TestRefused(t *testing.T) {
	for text, err := range map[string]api.Errno{
		"x: int@a): int@a ! none = ^y":                                                                                api.ErrType,
		"x: int@a): int@a ! none = 1 + ^true":                                                                         api.ErrType,
		"x: int@a): bool@a ! none = ^x":                                                                               api.ErrType,
		"x: int@a): int@a ! none = ^if true then 1 else false":                                                        api.ErrType,
		"x: int@a): int@a ! none = (fun f(n: int@o): int@o ! o, none => ^m)(1)":                                       api.ErrType,
		"x: int@a): int@o ! none = ^x":                                                                                api.ErrFlow,
		"x: int@a): int@a ! none = 1; ^out[b] x":                                                                      api.ErrFlow,
		"x: int@a): int@a ! o = ^1 / x":                                                                               api.ErrFlow,
		"x: int@a): int@a ! abc = raise[int@o] 1; ^out[b] x":                                                          api.ErrFlow,
		"x: int@a): int@a ! none = (^fun f(n: int@o): int@o ! o, none => 1/n)(1)":                                     api.ErrFlow,
		"x: ref(ref(ref(ref(ref(int@a)@o)@o)@o)@o)@o): int@a ! none = 3; ^(1, x); 2":                                  api.ErrLimit,
		"x: int@a): int@a ! none = 3; (^fun f(n: ref(ref(ref(ref(ref(int@a)@o)@o)@o)@o)@o): int@o ! o, none => 1); 2": api.ErrLimit,
	} {
		ahead, behind, _ := strings.Cut(text, "^")
		refused(t, program(t, ahead+behind), len(head)+len(ahead), err)
	}
}

// TestUnformed (P11.1, P11.2): programs that aren't formed, each by something else.
func TestUnformed(t *testing.T) {
	good := lone(sum(name("x"), number(1)))
	converted(t, good)
	for i, change := range []func(p *api.Program){
		func(p *api.Program) { *p = api.Program{} },
		func(p *api.Program) { p.Lattice = api.Lattice{} },
		func(p *api.Program) { p.Lattice.Order = [][]bool{{false}} },
		func(p *api.Program) { p.Arg = "" },
		func(p *api.Program) { p.Arg = "let" },
		func(p *api.Program) { p.Param = api.Type{} },
		func(p *api.Program) { p.Param = refs(7) },
		func(p *api.Program) { p.Result = integer(1) },
		func(p *api.Program) { p.Exc = 1 },
		func(p *api.Program) { p.Exc = -2 },
		func(p *api.Program) { p.Body = api.Expr{} },
		func(p *api.Program) { p.Body.Kind = 20 },
		func(p *api.Program) { p.Body.Kind = -1 },
		func(p *api.Program) { p.Body.Parts = p.Body.Parts[:1] },
		func(p *api.Program) { p.Body.Parts = slices.Repeat(p.Body.Parts, 2) },
		func(p *api.Program) { p.Body.N = api.OpNot },
		func(p *api.Program) { p.Body.M = 1 },
		func(p *api.Program) { p.Body.Type = integer(0) },
		func(p *api.Program) { p.Body.Parts = []api.Expr{name("x"), number(-1)} },
		func(p *api.Program) { p.Body = api.Expr{Kind: api.EOut, N: 1, Parts: []api.Expr{number(1)}} },
		func(p *api.Program) { p.Body = api.Expr{Kind: api.ENew, Parts: []api.Expr{number(1)}} },
		func(p *api.Program) { p.Body = function("f", "", number(1)) },
		func(p *api.Program) { p.Body = sum(slices.Repeat([]api.Expr{name("x")}, 1001)...) },
		func(p *api.Program) {
			for range 29 {
				p.Body = expr(api.ESeq, number(1), p.Body)
			}
		},
	} {
		p := lone(sum(name("x"), number(1)))
		change(&p)
		refused(t, p, -1, api.ErrForm)
		if t.Failed() {
			t.Fatal(i)
		}
	}
}

// TestRefusedAhead (P11.1): what layer 7 refuses is told ahead of a limit.
func TestRefusedAhead(t *testing.T) {
	many := inSeq(slices.Repeat([]api.Expr{function("f", "n", name("n"))}, 70)...)
	wrong := name("y")
	wrong.At = 77
	refused(t, lone(inSeq(many, wrong)), 77, api.ErrType)
	p := lone(raised(number(1)))
	p.Exc, p.Body.At, p.Param = none, -4, refs(6)
	refused(t, p, -4, api.ErrFlow)
	p.Exc = 0
	beyond(t, p, 1)
}

// TestAsChecked (P11.1): of drawn programs that are refused the error and the place are layer 7's.
func TestAsChecked(t *testing.T) {
	told := map[api.Errno]int{}
	for p := range drawnPrograms(111, 4000) {
		_, _, at, e := check.Program(p)
		if told[e]++; e != api.OK {
			refused(t, p, at, e)
		}
	}
	if told[api.ErrFlow] < 300 || told[api.ErrType] < 300 {
		t.Error("errors told:", told)
	}
}
