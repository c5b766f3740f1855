package conv_test

import (
	"slices"
	"strconv"
	"testing"

	"palisade/api"
	"palisade/check"
	"palisade/conv"
	"palisade/ir"
)

// lone is a program over a lattice of one label, which takes an Int and gives one.
func lone(body api.Expr) api.Program {
	return api.Program{Lattice: single(), Arg: "x", Param: integer(0), Result: integer(0), Body: body}
}

// joined is all these as one expression of that Kind, which nests as little as may be.
func joined(kind int, n int64, all []api.Expr) api.Expr {
	if len(all) == 1 {
		return all[0]
	}
	half := len(all) / 2
	return api.Expr{Kind: kind, N: n, Parts: []api.Expr{joined(kind, n, all[:half]), joined(kind, n, all[half:])}}
}

func inSeq(all ...api.Expr) api.Expr {
	return joined(api.ESeq, 0, all)
}

func sum(all ...api.Expr) api.Expr {
	return joined(api.EBin, api.OpAdd, all)
}

func raised(part api.Expr) api.Expr {
	return api.Expr{Kind: api.ERaise, Type: integer(0), Parts: []api.Expr{part}}
}

func let(name string, parts ...api.Expr) api.Expr {
	return api.Expr{Kind: api.ELet, Text: name, Parts: parts}
}

func function(text, arg string, part api.Expr) api.Expr {
	return api.Expr{Kind: api.EFun, Text: text, Arg: arg, Type: integer(0), Give: integer(0), Parts: []api.Expr{part}}
}

// accepted holds that layer 7 accepts p, so that a limit is told by layer 11.
func accepted(t *testing.T, p api.Program) {
	t.Helper()
	if _, _, at, e := check.Program(p); e != api.OK {
		t.Fatalf("refused: %d, error %d", at, e)
	}
}

// within holds that p is converted to that many functions.
func within(t *testing.T, p api.Program, many int) []ir.Fn {
	t.Helper()
	accepted(t, p)
	fns := converted(t, p)
	if len(fns) != many || len(conv.Caps(p)) != many {
		t.Fatalf("%d functions, %d Caps; want %d", len(fns), len(conv.Caps(p)), many)
	}
	return fns
}

// beyond holds that p, which has that many functions, is beyond a limit. Of what is accepted the Caps are told nonetheless.
func beyond(t *testing.T, p api.Program, many int) [][]api.Type {
	t.Helper()
	accepted(t, p)
	if fns, at, e := conv.Convert(p); len(fns) != 0 || at != 0 || e != api.ErrLimit {
		t.Fatalf("%d functions, %d, error %d", len(fns), at, e)
	}
	caps := conv.Caps(p)
	if len(caps) != many {
		t.Fatalf("%d Caps; want %d", len(caps), many)
	}
	return caps
}

// TestMaxFuncs (P11.1, P11.2): MaxFuncs functions, the Body among them, those that aren't come to, too; and one more.
func TestMaxFuncs(t *testing.T) {
	all := slices.Repeat([]api.Expr{function("f", "n", name("n"))}, 59)
	within(t, lone(inSeq(append(all, number(1))...)), 60)
	beyond(t, lone(inSeq(append(all, all[0], number(1))...)), 61)
	within(t, lone(inSeq(raised(number(1)), inSeq(all...), number(1))), 60)
	beyond(t, lone(inSeq(raised(number(1)), inSeq(append(all, all[0])...), number(1))), 61)
	beyond(t, lone(inSeq(append(slices.Repeat(all, 10), number(1))...)), 591)
	// Each within another one.
	nest := name("x")
	for range 13 {
		nest = expr(api.ECall, function("f", "x", nest), number(1))
	}
	within(t, lone(nest), 14)
	within(t, lone(inSeq(slices.Repeat([]api.Expr{nest}, 4)...)), 53)
	beyond(t, lone(inSeq(slices.Repeat([]api.Expr{nest}, 5)...)), 66)
}

// capturing is a function that captures that many names, in a Body in which they stand, behind that.
func capturing(many int, ahead ...api.Expr) api.Program {
	needs := []api.Expr{name("x")}
	for i := range many - 1 {
		needs = append(needs, name("v"+strconv.Itoa(i)))
	}
	body := inSeq(append(ahead, expr(api.ECall, function("f", "n", sum(needs...)), number(1)))...)
	for i := range many - 1 {
		body = let("v"+strconv.Itoa(i), number(int64(i)), body)
	}
	return lone(body)
}

// TestMaxCaps (P11.1, P11.2): MaxCaps Caps of one function, which is come to or not, and one more.
func TestMaxCaps(t *testing.T) {
	if fns := within(t, capturing(16), 2); len(fns[1].Caps) != 16 {
		t.Error(len(fns[1].Caps))
	}
	for _, p := range []api.Program{capturing(17), capturing(17, raised(number(1)))} {
		if caps := beyond(t, p, 2); len(caps[0]) != 0 || len(caps[1]) != 17 {
			t.Error(len(caps[1]))
		}
	}
	within(t, capturing(16, raised(number(1))), 2)
	beyond(t, capturing(22), 2)
}

// TestMaxSlots (P11.1): MaxSlots slots of one function, all told, and one more.
func TestMaxSlots(t *testing.T) {
	ones := slices.Repeat([]api.Expr{number(1)}, 300)
	slots := func(fns []ir.Fn, k int) {
		t.Helper()
		if len(fns[k].Slots) != 250 {
			t.Errorf("%d slots", len(fns[k].Slots))
		}
	}
	slots(within(t, lone(inSeq(ones[:249]...)), 1), 0)
	beyond(t, lone(inSeq(ones[:250]...)), 1)
	slots(within(t, lone(sum(ones[:125]...)), 1), 0)
	beyond(t, lone(inSeq(ones[0], sum(ones[:125]...))), 1)
	// Of a function: what it takes, what it captures (here one), its own name, and its expressions.
	body := func(many int) api.Program {
		part := inSeq(append(slices.Clone(ones[:many]), name("f"), name("x"))...)
		return lone(expr(api.ESeq, function("f", "n", part), number(1)))
	}
	slots(within(t, body(245), 2), 1)
	beyond(t, body(246), 2)
	// What is raised has one, and what isn't come to has none.
	try := func(many int) api.Program {
		made := expr(api.ETry, inSeq(ones[:many]...), name("e"))
		made.Text = "e"
		return lone(made)
	}
	slots(within(t, try(246), 1), 0)
	beyond(t, try(247), 1)
	within(t, lone(expr(api.ESeq, raised(number(1)), inSeq(slices.Repeat(ones, 3)...))), 1)
	// Each function has slots of its own.
	four := inSeq(function("f", "n", inSeq(ones[:249]...)), function("g", "n", inSeq(ones[:249]...)), inSeq(ones[:247]...))
	slots(within(t, lone(four), 3), 0)
}

// refs is Refs within one another, so deep, an Int at the end.
func refs(deep int) api.Type {
	t := integer(0)
	for range deep - 1 {
		t = refOf(0, t)
	}
	return t
}

// TestShaped (P11.1): the Fun of what a program takes and gives must be formed, too: not too deep, nor of too many nodes.
func TestShaped(t *testing.T) {
	p := lone(number(1))
	p.Param = refs(5)
	within(t, p, 1)
	p.Param = refs(6)
	beyond(t, p, 1)
	p.Param, p.Result, p.Body = integer(0), refs(5), api.Expr{Kind: api.ERaise, Type: refs(5), Parts: []api.Expr{number(1)}}
	within(t, p, 1)
	p.Result, p.Body.Type = refs(6), refs(6)
	beyond(t, p, 1)
	// A tree of 15 nodes, one of 19 (with four Refs), one of 20.
	tree := pairOf(0, pairOf(0, pairOf(0, integer(0), integer(0)), pairOf(0, integer(0), integer(0))), pairOf(0, pairOf(0, integer(0), integer(0)), pairOf(0, integer(0), integer(0))))
	p = lone(name("x"))
	p.Param = pairOf(0, tree, refs(3))
	p.Result, p.Body = pairOf(0, tree, refs(4)), api.Expr{Kind: api.ERaise, Type: pairOf(0, tree, refs(4)), Parts: []api.Expr{number(1)}}
	within(t, p, 1)
	p.Param = p.Result
	beyond(t, p, 1)
}

// deepest is how deep nodes nest.
func deepest(body []ir.Node) int {
	deep := 0
	for _, n := range body {
		deep = max(deep, 1+deepest(n.Body), 1+deepest(n.Else))
	}
	return deep
}

// TestDeepest (P11.1): ways within ways, as deep as an expression may nest, and many nodes of few slots. (More nodes than 4096, or deeper ones than 64, would need more slots, or more nesting, than there may be.)
func TestDeepest(t *testing.T) {
	choice, attempt := number(1), number(1)
	for range api.MaxNest - 1 {
		choice = expr(api.EIf, api.Expr{Kind: api.EBool}, choice, number(2))
		attempt = api.Expr{Kind: api.ETry, Text: "e", Parts: []api.Expr{number(2), attempt}}
	}
	for _, e := range []api.Expr{choice, attempt} {
		if f := within(t, lone(e), 1)[0]; deepest(f.Body) != 30 {
			t.Errorf("%d deep", deepest(f.Body))
		}
	}
	leaf := expr(api.EIf, api.Expr{Kind: api.EBool}, number(1), raised(number(2)))
	f := within(t, lone(inSeq(slices.Repeat([]api.Expr{leaf}, 62)...)), 1)[0]
	if len(f.Slots) != 249 || ir.Count(f.Body) != 62*6 {
		t.Errorf("%d slots, %d nodes", len(f.Slots), ir.Count(f.Body))
	}
}
