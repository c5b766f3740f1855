package check_test

import (
	"math"
	"reflect"
	"strings"
	"testing"

	"palisade/api"
	"palisade/check"
	"palisade/lattice"
	"palisade/syntax"
)

const low = "lattice { low, high, low < high } main("

// TestProgram (P7.2): whole texts, with the label of T and X, or with the place, marked by ^, and the error.
func TestProgram(t *testing.T) {
	for text, want := range map[string]struct {
		told, exc string
		err       api.Errno
	}{
		"x: int@high): int@high ! none = x + 1":                                                                           {"int@high", "none", api.OK},
		"x: int@high): int@high ! none = 1":                                                                               {"int@low", "none", api.OK},
		"x: int@high): int@low ! none = ^x + 1":                                                                           {"", "", api.ErrFlow},
		"x: int@high): bool@high ! none = ^x + 1":                                                                         {"", "", api.ErrType},
		"x: int@high): int@high ! none = if x < 1 then ^out[low] 1 else 2":                                                {"", "", api.ErrFlow},
		"x: int@high): int@high ! none = let r = new[int@low] 1 in if x == 0 then r := ^2 else 3":                         {"", "", api.ErrFlow},
		"x: int@high): int@high ! none = ^1 / x":                                                                          {"", "", api.ErrFlow},
		"x: int@high): int@high ! low = ^1 / x":                                                                           {"", "", api.ErrFlow},
		"x: int@high): int@high ! high = 1 / x":                                                                           {"int@high", "high", api.OK},
		"x: int@low): int@low ! low = 1 / x":                                                                              {"int@low", "low", api.OK},
		"x: int@low): int@low ! high = 1 / x":                                                                             {"int@low", "low", api.OK},
		"x: int@low): int@low ! none = ^1 / x":                                                                            {"", "", api.ErrFlow},
		"x: int@low): int@low ! high = x":                                                                                 {"int@low", "none", api.OK},
		"x: int@high): int@low ! none = let y = try 1 / x with e => e end in out[low] 1":                                  {"int@low", "none", api.OK},
		"x: int@high): int@high ! high = let y = 1 / x in ^out[low] 1":                                                    {"", "", api.ErrFlow},
		"x: int@high): int@low ! none = ^1 / x":                                                                           {"", "", api.ErrFlow},
		"x: int@high): bool@low ! none = ^1 / x":                                                                          {"", "", api.ErrType},
		"x: int@high): int@high ! none = (fun f(n: int@high): int@high ! high, none => if n < 1 then x else f(n - 1))(5)": {"int@high", "none", api.OK},
		"x: int@high): int@low ! none = snd (x, 1)":                                                                       {"int@low", "none", api.OK},
		"y: int@high): int@high ! none = ^x":                                                                              {"", "", api.ErrType},
		"x: (int@low, bool@high)@low): (int@high, bool@high)@low ! none = x":                                              {"(int@low, bool@high)@low", "none", api.OK},
		"x: [int@high -> int@low ! low, high]@low): int@high ! high = x(1)":                                               {"int@high", "high", api.OK},
		"x: ref(int@low)@low): ref(int@high)@high ! none = ^x":                                                            {"", "", api.ErrType},
		"x: int@low): int@low ! none = out[low] x":                                                                        {"int@low", "none", api.OK},
	} {
		ahead, behind, _ := strings.Cut(low+text, "^")
		p, _, e := syntax.Parse(ahead + behind)
		if e != api.OK {
			t.Fatal(text, e)
		}
		got, x, at, e := check.Program(p)
		if want.err == api.OK {
			told, _ := syntax.Type(p.Lattice, got)
			if e != api.OK || at != 0 || told != want.told || x != lattice.Find(p.Lattice, want.exc) {
				t.Errorf("%s: %s, %d, %d, %d", text, told, x, at, e)
			}
		} else if e != want.err || at != len(ahead) || x != api.None || !reflect.DeepEqual(got, api.Type{}) {
			t.Errorf("%s: %v, %d, %d, %d", text, got, x, at, e)
		}
	}
}

// TestProgramAtTheBottom (P7.2): the Body stands at the bottom, whichever number that has, and with Param alone.
func TestProgramAtTheBottom(t *testing.T) {
	for _, l := range lattices() {
		bottom := lattice.Bottom(l)
		p := api.Program{Lattice: l, Arg: "x", Param: integer(bottom), Result: integer(bottom), Exc: api.None}
		p.Body = api.Expr{Kind: api.EOut, N: int64(bottom), Parts: []api.Expr{name("x")}}
		if got, x, at, e := check.Program(p); e != api.OK || at != 0 || x != api.None || !reflect.DeepEqual(plain(got), integer(bottom)) {
			t.Error(got, x, at, e)
		}
	}
}

// TestProgramAsJudged (P7.2): what is answered of a Body is what Judge answers of it, places too.
func TestProgramAsJudged(t *testing.T) {
	p := api.Program{Lattice: chain(), Arg: "v", Param: integer(0), Result: integer(1), Exc: 1, Body: at(-7, expr(api.ESeq, at(3, name("v")), at(-12, name("w"))))}
	if got, x, place, e := check.Program(p); e != api.ErrType || place != -12 || x != api.None || !reflect.DeepEqual(got, api.Type{}) {
		t.Error(got, x, place, e)
	}
	p.Body.Parts[1].Text = "v"
	p.Result = boolean(0)
	if got, x, place, e := check.Program(p); e != api.ErrType || place != -7 || x != api.None || !reflect.DeepEqual(got, api.Type{}) {
		t.Error(got, x, place, e)
	}
}

// TestFits (P7.2).
func TestFits(t *testing.T) {
	ints := []string{"int@o", "int@a", "int@b", "int@ab", "int@abc"}
	for _, s := range ints {
		for _, u := range ints {
			want := api.ErrFlow
			if lattice.Leq(sets(), typ(t, s).Label, typ(t, u).Label) {
				want = api.OK
			}
			fits(t, s, u, want)
		}
		fits(t, s, "bool@abc", api.ErrType)
		fits(t, "bool@o", s, api.ErrType)
	}
	fits(t, "(int@o, bool@a)@b", "(int@a, bool@a)@b", api.OK)
	fits(t, "(int@a, bool@a)@b", "(int@o, bool@a)@b", api.ErrFlow)
	fits(t, "(int@o, bool@a)@b", "(int@o, int@a)@b", api.ErrType)
	fits(t, "(int@o, bool@a)@b", "(int@o, bool@a)@o", api.ErrFlow)
	fits(t, "ref(int@o)@o", "ref(int@o)@a", api.OK)
	fits(t, "ref(int@o)@a", "ref(int@o)@o", api.ErrFlow)
	fits(t, "ref(int@o)@o", "ref(int@a)@a", api.ErrType)
	fits(t, "[int@a -> int@o ! a, none]@o", "[int@o -> int@a ! o, b]@c", api.OK)
	fits(t, "[int@o -> int@o ! a, none]@o", "[int@a -> int@a ! o, b]@c", api.ErrFlow)
	fits(t, "[int@a -> int@o ! o, none]@o", "[int@a -> int@o ! a, none]@o", api.ErrFlow)
	fits(t, "[int@a -> int@o ! o, o]@o", "[int@a -> int@o ! o, none]@o", api.ErrFlow)
	fits(t, "[int@a -> int@o ! o, o]@o", "[bool@a -> int@o ! o, o]@o", api.ErrType)
	fits(t, "[ref(int@a)@o -> int@o ! o, o]@o", "[ref(int@o)@o -> int@o ! o, o]@o", api.ErrType)
}

func fits(t *testing.T, s, u string, want api.Errno) {
	t.Helper()
	if got := check.Fits(sets(), typ(t, s), typ(t, u)); got != want {
		t.Errorf("Fits(%s, %s) = %d, want %d", s, u, got, want)
	}
}

// unformedTypes are no types of sets.
func unformedTypes() []api.Type {
	deep := integer(0)
	for range api.MaxDeep {
		deep = refOf(0, deep)
	}
	wide := pairOf(0, integer(0), integer(0))
	for range 4 {
		wide = pairOf(0, wide, wide)
	}
	wide.Parts[0] = pairOf(0, wide.Parts[0], integer(0)) // 33 nodes and 2, and so on up to more than MaxNodes
	ring := make([]api.Type, 1)
	ring[0] = refOf(0, api.Type{})
	ring[0].Parts = ring
	return []api.Type{
		{}, integer(8), integer(-1), integer(math.MaxInt), {Kind: 6}, {Kind: -1}, {Kind: api.Int, Heap: 1}, {Kind: api.Bool, Exc: api.None},
		{Kind: api.Int, Parts: []api.Type{integer(0)}}, {Kind: api.Pair}, {Kind: api.Ref}, refOf(0, integer(9)), funOf(0, integer(0), integer(0), 8, 0), funOf(0, integer(0), integer(0), -1, 0),
		funOf(0, integer(0), integer(0), 0, 8), funOf(0, integer(0), integer(0), 0, -2), deep, pairOf(0, wide, wide), ring[0],
	}
}

// unformedLattices are none.
func unformedLattices() []api.Lattice {
	return []api.Lattice{
		{}, {Names: []string{"a"}}, {Order: [][]bool{{true}}}, {Names: []string{"a"}, Order: [][]bool{{false}}}, {Names: []string{"a", "a"}, Order: [][]bool{{true, true}, {false, true}}},
		{Names: []string{"a", "b"}, Order: [][]bool{{true, false}, {false, true}}}, {Names: []string{"a", "b"}, Order: [][]bool{{true, true}, {true, true}}}, {Names: []string{"9"}, Order: [][]bool{{true}}},
		{Names: []string{"a", "b"}, Order: [][]bool{{true, true}, {}}},
	}
}

// TestFitsUnformed (P7.2): ErrType, if one isn't formed, also of types that are the same.
func TestFitsUnformed(t *testing.T) {
	l := sets()
	for _, bad := range unformedTypes() {
		if check.Fits(l, bad, bad) != api.ErrType || check.Fits(l, bad, integer(0)) != api.ErrType || check.Fits(l, integer(0), bad) != api.ErrType {
			t.Errorf("%v fits", bad)
		}
	}
	for _, bad := range unformedLattices() {
		if check.Fits(bad, integer(0), integer(0)) != api.ErrType {
			t.Errorf("Fits of %v", bad)
		}
	}
}

// formless holds what Judge answers against ErrForm and no place, beside which there is nothing.
func formless(t *testing.T, l api.Lattice, env []check.Bind, pc, heap int, e api.Expr) {
	t.Helper()
	if got, x, at, err := check.Judge(l, env, pc, heap, e); err != api.ErrForm || at != -1 || x != 0 || !reflect.DeepEqual(got, api.Type{}) {
		t.Errorf("Judge(%v, %v, %d, %d, %.200v) = %v, %d, %d, %d", l, env, pc, heap, e, got, x, at, err)
	}
}

// TestJudgeUnformed (P7.1): ErrForm of lattices, names' types, labels and expressions that aren't formed, also where no rule would ask for them.
func TestJudgeUnformed(t *testing.T) {
	l := sets()
	for _, bad := range unformedLattices() {
		formless(t, bad, nil, 0, 0, number(1))
	}
	for _, bad := range unformedTypes() {
		formless(t, l, []check.Bind{{Name: "v", Type: bad}}, 0, 0, number(1))
		formless(t, l, []check.Bind{{Name: "", Type: bad}}, 0, 0, number(1))
		formless(t, l, []check.Bind{{Name: "v", Type: integer(0)}, {Name: "v", Type: bad}, {Name: "v", Type: integer(0)}}, 0, 0, name("v"))
		formless(t, l, []check.Bind{{Name: "x", Type: bad}}, 0, 0, name("unknown"))
		formless(t, l, nil, 0, 0, api.Expr{Kind: api.ENew, Type: bad, Parts: []api.Expr{number(1)}})
	}
	for _, bad := range []int{-1, -2, 8, 9, math.MaxInt, math.MinInt} {
		formless(t, l, nil, bad, 0, number(1))
		formless(t, l, nil, 0, bad, number(1))
		formless(t, l, nil, bad, bad, name("v"))
		formless(t, l, nil, 0, 0, api.Expr{Kind: api.EOut, N: int64(bad), Parts: []api.Expr{number(1)}})
	}
	formless(t, chain(), nil, 2, 0, number(1))
	formless(t, chain(), nil, 0, 2, number(1))
	for _, bad := range unformedExprs() {
		formless(t, l, nil, 0, 0, bad)
		formless(t, l, nil, 0, 0, expr(api.ESeq, name("v"), bad))
	}
}

// unformedExprs are none of any program.
func unformedExprs() []api.Expr {
	nots, adds := api.Expr{Kind: api.EBool}, number(1)
	for range api.MaxNest {
		nots = expr(api.ENot, nots)
	}
	for range 10 {
		adds = api.Expr{Kind: api.EBin, N: api.OpAdd, Parts: []api.Expr{adds, adds}}
	}
	return []api.Expr{
		{}, {Kind: 20}, {Kind: -1}, number(-1), {Kind: api.EBool, N: 2}, name(""), name("let"), name("9"), {Kind: api.EInt, Text: "a"}, {Kind: api.EInt, M: 1}, {Kind: api.EInt, Arg: "a"}, {Kind: api.EInt, Type: integer(0)}, {Kind: api.EInt, Give: integer(0)},
		expr(api.EInt, number(1)), expr(api.ENot), expr(api.EPair, number(1)), expr(api.EIf, number(1), number(1)), expr(api.ELet, number(1), number(1)), expr(api.ETry, number(1), number(1)),
		{Kind: api.EBin, N: api.OpAdd - 1, Parts: []api.Expr{number(1), number(1)}}, {Kind: api.EBin, N: api.OpSame + 1, Parts: []api.Expr{number(1), number(1)}},
		{Kind: api.EFun, Text: "f", Arg: "a", Type: integer(0), Give: integer(0), M: -2, Parts: []api.Expr{number(1)}}, {Kind: api.EFun, Text: "f", Arg: "", Type: integer(0), Give: integer(0), Parts: []api.Expr{number(1)}},
		nots, adds,
	}
}

// TestJudgeAnyNames (P7.1): nothing is asked of the names that are handed in, but their types.
func TestJudgeAnyNames(t *testing.T) {
	for _, n := range []string{"", "let", "9", "\xff", strings.Repeat("a", 100), "f g"} {
		if got, x, at, e := check.Judge(chain(), []check.Bind{{Name: n, Type: boolean(1)}}, 1, 1, number(3)); e != api.OK || at != 0 || x != api.None || !reflect.DeepEqual(plain(got), integer(1)) {
			t.Errorf("%q: %v, %d, %d, %d", n, got, x, at, e)
		}
	}
}

// TestProgramUnformed (P7.2): ErrForm of programs that aren't formed.
func TestProgramUnformed(t *testing.T) {
	good := api.Program{Lattice: sets(), Arg: "x", Param: integer(0), Result: integer(0), Exc: api.None, Body: number(1)}
	if _, _, _, e := check.Program(good); e != api.OK {
		t.Fatal(e)
	}
	var bad []api.Program
	change := func(how func(p *api.Program)) {
		p := good
		how(&p)
		bad = append(bad, p)
	}
	for _, l := range unformedLattices() {
		change(func(p *api.Program) { p.Lattice = l })
	}
	for _, u := range unformedTypes() {
		change(func(p *api.Program) { p.Param = u })
		change(func(p *api.Program) { p.Result = u })
	}
	for _, n := range []string{"", "let", "none", "9", "\xff"} {
		change(func(p *api.Program) { p.Arg = n })
	}
	for _, a := range []int{-2, 8, math.MaxInt} {
		change(func(p *api.Program) { p.Exc = a })
	}
	for _, e := range unformedExprs() {
		change(func(p *api.Program) { p.Body = e })
	}
	bad = append(bad, api.Program{})
	for _, p := range bad {
		if got, x, at, e := check.Program(p); e != api.ErrForm || at != -1 || x != 0 || !reflect.DeepEqual(got, api.Type{}) {
			t.Errorf("Program(%.300v) = %v, %d, %d, %d", p, got, x, at, e)
		}
	}
}
