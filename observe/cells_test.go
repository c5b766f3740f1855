package observe_test

import (
	"math"
	"testing"

	"palisade/api"
	"palisade/observe"
)

// TestRefs (P19.1): a cell that is there is told once, in a line behind the seeds; one that was met before keeps its number; cells have their numbers as they are met, not as they lie.
func TestRefs(t *testing.T) {
	cells := []api.Cell{cell(intAt(left), integer(4)), cell(intAt(bottom), integer(5)), cell(intAt(right), integer(6))}
	s := of(nil, cells...).seed(refAt(left, bottom), ref(1)).seed(intAt(bottom), integer(9)).seed(refAt(left, left), ref(0)).seed(refAt(left, bottom), ref(1)).seed(refAt(bottom, right), ref(2))
	s.tells(t, left, "r0\n9\nr1\nr0\nr2\n5\n4\n?\n")
	s.tells(t, right, "?\n9\n?\n?\nr0\n6\n")
	s.tells(t, top, "r0\n9\nr1\nr0\nr2\n5\n4\n6\n")
	s.tells(t, bottom, "?\n9\n?\n?\nr0\n?\n")
}

// TestNoCell (P19.1): a Ref whose cell isn't there, just behind the last one and far behind.
func TestNoCell(t *testing.T) {
	for _, n := range []int64{2, 3, math.MaxInt32} {
		s := of(nil, cell(intAt(left), integer(4)), cell(intAt(left), integer(5))).seed(refAt(left, left), ref(n)).seed(refAt(left, left), ref(1))
		s.tells(t, left, "?\nr0\n5\n")
	}
	of(nil).seed(refAt(left, left), ref(0)).tells(t, left, "?\n")
}

// TestUnlikeRefs (P19.1): two Refs to one cell by types of different labels: it is met by the one that is seen alone; what it holds is seen by its own Type, whatever the Refs' types say of that.
func TestUnlikeRefs(t *testing.T) {
	s := of(nil, cell(intAt(left), integer(4))).seed(refAt(right, left), ref(0)).seed(refAt(left, right), ref(0))
	s.tells(t, left, "?\nr0\n4\n")
	s.tells(t, right, "r0\n?\n?\n")
	s.tells(t, top, "r0\nr0\n4\n")
	s.tells(t, bottom, "?\n?\n")
	of(nil, cell(intAt(left), boolean(1))).seed(typed(api.Ref, left, typed(api.Bool, left)), ref(0)).tells(t, left, "r0\n?\n")
}

// TestChains (P19.1): cells that are met in cells follow those that were met ahead of them.
func TestChains(t *testing.T) {
	toInt := refAt(left, left)
	both := typed(api.Pair, left, typed(api.Ref, left, toInt), toInt)
	s := of(nil,
		cell(intAt(left), integer(4)), cell(toInt, ref(0)), cell(both, pair(ref(1), ref(3))), cell(intAt(left), integer(7)), cell(toInt, ref(3)),
	).seed(typed(api.Ref, left, both), ref(2)).seed(typed(api.Ref, left, toInt), ref(4))
	s.tells(t, left, "r0\nr1\n(r2,r3)\nr3\nr4\n7\n4\n")
	s.tells(t, right, "?\n?\n")
}

// TestHiddenChains (P19.1): what is met only by what isn't seen isn't met.
func TestHiddenChains(t *testing.T) {
	toRight := refAt(right, bottom)
	s := of(nil, cell(intAt(bottom), integer(4)), cell(toRight, ref(0)), cell(intAt(bottom), integer(5))).seed(typed(api.Ref, bottom, toRight), ref(1))
	s.tells(t, left, "r0\n?\n")
	s.tells(t, right, "r0\nr1\n4\n")
	s.seed(refAt(left, bottom), ref(2)).tells(t, left, "r0\nr1\n?\n5\n")
	s.seed(refAt(left, bottom), ref(0)).tells(t, left, "r0\nr1\n?\n4\n")
}

// TestRings (P19.1, R1): cells that lead back to themselves, and to one another, are told once each.
func TestRings(t *testing.T) {
	toInt := refAt(bottom, bottom)
	of(nil, cell(toInt, ref(0))).seed(toInt, ref(0)).tells(t, left, "r0\nr0\n")
	of(nil, cell(toInt, ref(2)), cell(toInt, ref(0)), cell(toInt, ref(1))).seed(toInt, ref(1)).tells(t, left, "r0\nr1\nr2\nr0\n")
	// By what a Fun captured they may do so though all fits.
	funcs := []api.Func{capturing(typed(api.Ref, left, funAt(left)), intAt(left))}
	s := of(funcs, cell(funAt(left), fun(0, ref(1), integer(1))), cell(funAt(left), fun(0, ref(0), integer(2)))).seed(funAt(left), fun(0, ref(1), integer(3)))
	s.tells(t, left, "f0[r0,3]\nf0[r1,2]\nf0[r0,1]\n")
}

// TestNotMet (P19.1): cells that aren't met aren't told, nor is anything where there are no seeds.
func TestNotMet(t *testing.T) {
	cells := []api.Cell{cell(intAt(left), integer(4)), cell(refAt(left, left), ref(0)), cell(intAt(left), integer(5))}
	of(nil, cells...).seed(intAt(left), integer(1)).tells(t, left, "1\n")
	of(nil, cells...).tells(t, left, "")
	of(nil).tells(t, left, "")
	scene{L: diamond(), Funcs: []api.Func{}, Cells: []api.Cell{}, Seeds: []observe.Seed{}}.tells(t, left, "")
}

// TestRootsView (P19.1): by the Roots all cells are met, in their order.
func TestRootsView(t *testing.T) {
	s := of(nil, cell(intAt(left), integer(4)), cell(refAt(left, top), ref(2)), cell(intAt(top), integer(5)))
	s.Seeds = observe.Roots(s.L, s.Cells)
	s.tells(t, left, "r0\nr1\nr2\n4\nr2\n?\n")
	s.tells(t, right, "r0\nr1\nr2\n?\n?\n?\n")
	s.tells(t, bottom, "r0\nr1\nr2\n?\n?\n?\n")
}
