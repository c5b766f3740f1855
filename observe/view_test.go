package observe_test

import (
	"math"
	"strings"
	"testing"

	"palisade/api"
)

// TestExamples (P19.1): the chapter's.
func TestExamples(t *testing.T) {
	both := scene{L: chain()}.seed(typed(api.Pair, 0, intAt(0), intAt(1)), pair(integer(1), integer(2)))
	both.tells(t, 0, "(1,?)\n")
	both.tells(t, 1, "(1,2)\n")
	scene{L: chain(), Cells: []api.Cell{cell(intAt(0), integer(5))}}.seed(refAt(0, 0), ref(0)).tells(t, 0, "r0\n5\n")
}

// TestPlain (P19.1): Ints and Bools by their texts.
func TestPlain(t *testing.T) {
	s := of(nil)
	for _, n := range []int64{0, 7, -7, math.MaxInt64, math.MinInt64} {
		s = s.seed(intAt(left), integer(n))
	}
	s = s.seed(typed(api.Bool, bottom), boolean(0)).seed(typed(api.Bool, left), boolean(1))
	s.tells(t, left, "0\n7\n-7\n9223372036854775807\n-9223372036854775808\nfalse\ntrue\n")
	s.tells(t, right, "?\n?\n?\n?\n?\nfalse\n?\n")
}

// kinds are a type and a value of each Kind, with what is seen of it by one who sees all.
func kinds(label int) []struct {
	t    api.Type
	v    api.Value
	text string
} {
	return []struct {
		t    api.Type
		v    api.Value
		text string
	}{
		{intAt(label), integer(-5), "-5\n"},
		{typed(api.Bool, label), boolean(1), "true\n"},
		{typed(api.Pair, label, intAt(label), intAt(label)), pair(integer(1), integer(0)), "(1,0)\n"},
		{funAt(label), fun(1, integer(8)), "f1[8]\n"},
		{refAt(label, label), ref(0), "r0\n6\n"},
	}
}

// TestKinds (P19.1): a value of each Kind by a type of that Kind, and of each other one; with the Label below the observer's, being it, above it, and beside it.
func TestKinds(t *testing.T) {
	for observer := range 4 {
		for label := range 4 {
			for i, typ := range kinds(label) {
				for j, of := range kinds(label) {
					want := of.text
					if i != j || observer != top && label != bottom && observer != label {
						want = "?\n"
					}
					s := scene{L: diamond(), Funcs: []api.Func{{}, capturing(intAt(label))}, Cells: []api.Cell{cell(intAt(label), integer(6))}}
					s.seed(typ.t, of.v).tells(t, observer, want)
				}
			}
		}
	}
}

// TestSeveral (P19.1): seeds are told in their order, each in a line of its own, also if they are alike.
func TestSeveral(t *testing.T) {
	s := of(nil).seed(intAt(left), integer(2)).seed(typed(api.Bool, bottom), boolean(1)).seed(intAt(left), integer(2)).seed(intAt(right), integer(1))
	s.tells(t, left, "2\ntrue\n2\n?\n")
	s.tells(t, right, "?\ntrue\n?\n1\n")
	s.tells(t, top, "2\ntrue\n2\n1\n")
	s.tells(t, bottom, "?\ntrue\n?\n?\n")
}

// TestPairs (P19.1): a Pair in a Pair, with one part seen and the other one not; where the Label of a Pair isn't seen, its parts aren't, whatever theirs are.
func TestPairs(t *testing.T) {
	inner := typed(api.Pair, left, intAt(left), typed(api.Bool, right))
	v := pair(pair(integer(1), boolean(1)), pair(integer(2), boolean(0)))
	s := of(nil).seed(typed(api.Pair, bottom, inner, typed(api.Pair, right, typed(api.Int, right), typed(api.Bool, bottom))), v)
	s.tells(t, left, "((1,?),?)\n")
	s.tells(t, right, "(?,(2,false))\n")
	s.tells(t, bottom, "(?,?)\n")
	s.tells(t, top, "((1,true),(2,false))\n")
	of(nil).seed(typed(api.Pair, left, intAt(bottom), intAt(bottom)), pair(integer(1), integer(2))).tells(t, right, "?\n")
	// A part of another Kind than its type's isn't seen; the other one is.
	of(nil).seed(typed(api.Pair, left, intAt(left), intAt(left)), pair(boolean(1), integer(2))).tells(t, left, "(?,2)\n")
	of(nil).seed(typed(api.Pair, left, intAt(left), inner), pair(integer(1), integer(2))).tells(t, left, "(1,?)\n")
}

// TestFuns (P19.1): a Fun with as many Parts as the function has Caps, with fewer, with more, with none; of a number that is no function's.
func TestFuns(t *testing.T) {
	funcs := []api.Func{capturing(), capturing(intAt(left), typed(api.Bool, right), intAt(bottom)), capturing(intAt(bottom))}
	for _, c := range []struct {
		v    api.Value
		text string
	}{
		{fun(1, integer(7), boolean(1), integer(8)), "f1[7,?,8]\n"},
		{fun(1, integer(7), boolean(1)), "f1[7,?]\n"},
		{fun(1, integer(7)), "f1[7]\n"},
		{fun(1), "f1[]\n"},
		{fun(1, integer(7), boolean(1), integer(8), integer(9), fun(0)), "f1[7,?,8]\n"},
		{fun(0), "f0[]\n"},
		{fun(0, integer(7)), "f0[]\n"},
		{fun(2, integer(7)), "f2[7]\n"},
		{fun(2, integer(7), integer(8)), "f2[7]\n"},
		{fun(2, boolean(1)), "f2[?]\n"},
		{fun(3), "?\n"},
		{fun(3, integer(7)), "?\n"},
		{fun(api.MaxFuncs - 1), "?\n"},
	} {
		of(funcs).seed(funAt(left), c.v).tells(t, left, c.text)
		of(funcs).seed(funAt(top), c.v).tells(t, left, "?\n")
		of(nil).seed(funAt(left), c.v).tells(t, left, "?\n")
	}
}

// TestFunsWithin (P19.1): Funs that captured Funs, Pairs and Refs are seen by their own functions' Caps; the seed's Heap, Exc, and what it takes and gives, mean nothing.
func TestFunsWithin(t *testing.T) {
	funcs := []api.Func{capturing(funAt(bottom), funAt(right)), capturing(typed(api.Pair, bottom, intAt(left), intAt(right)), refAt(left, right))}
	v := fun(0, fun(1, pair(integer(1), integer(2)), ref(1)), fun(1, pair(integer(3), integer(4)), ref(0)))
	s := of(funcs, cell(intAt(bottom), integer(5)), cell(intAt(right), integer(6))).seed(api.Type{Kind: api.Fun, Label: bottom, Parts: []api.Type{intAt(top), intAt(top)}, Heap: top, Exc: top}, v)
	s.tells(t, left, "f0[f1[(1,?),r0],?]\n?\n")
	s.tells(t, right, "f0[f1[(?,2),?],f1[(?,4),?]]\n")
	s.tells(t, top, "f0[f1[(1,2),r0],f1[(3,4),r1]]\n6\n5\n")
	s.tells(t, bottom, "f0[f1[(?,?),?],?]\n")
}

// TestUnformedCaps (P19.1, R1): Caps that aren't formed: what isn't of their Kind or has no label that is seen isn't seen, and a Pair that has fewer Parts has parts that aren't.
func TestUnformedCaps(t *testing.T) {
	both := pair(integer(1), integer(2))
	for _, c := range []struct {
		t    api.Type
		v    api.Value
		text string
	}{
		{api.Type{}, both, "?"}, {intAt(none), integer(1), "?"}, {intAt(4), integer(1), "?"}, {typed(9, bottom), integer(1), "?"}, {typed(api.Int, bottom, intAt(top)), integer(1), "1"},
		{typed(api.Pair, bottom), both, "(?,?)"}, {typed(api.Pair, bottom, intAt(bottom)), both, "(1,?)"}, {typed(api.Pair, bottom, intAt(left), intAt(left), intAt(top)), both, "(1,2)"},
		{typed(api.Pair, bottom, intAt(9), intAt(left)), both, "(?,2)"}, {typed(api.Fun, bottom), fun(0), "f0[]"}, {typed(api.Ref, bottom), ref(0), "r0"}, {typed(api.Ref, bottom), ref(1), "?"},
	} {
		text := "f0[" + c.text + "]\n"
		if c.text == "r0" {
			text += "5\n"
		}
		of([]api.Func{capturing(c.t)}, cell(intAt(left), integer(5))).seed(funAt(left), fun(0, c.v)).tells(t, left, text)
	}
}

// TestManyCaps (P19.1): a function of more Caps than the format allows, and a Fun of as many Parts as a value may have.
func TestManyCaps(t *testing.T) {
	v, caps := fun(0), []api.Type(nil)
	for i := range api.MaxValue - 1 {
		v.Parts = append(v.Parts, integer(int64(i%10)))
		caps = append(caps, intAt(left))
	}
	digits := strings.Repeat("0,1,2,3,4,5,6,7,8,9,", api.MaxValue/10)
	for _, many := range []int{0, 1, 16, 17, 500, api.MaxValue - 1} {
		s := of([]api.Func{capturing(caps[:many]...)})
		s.seed(funAt(left), v).tells(t, left, "f0["+digits[:max(2*many-1, 0)]+"]\n")
	}
}
