package observe_test

import (
	"testing"

	"palisade/api"
	"palisade/observe"
)

// seen is a scene of which there is something to be seen, and in which cells stand that aren't met.
func seen() scene {
	s := of([]api.Func{capturing(intAt(bottom))}, cell(intAt(bottom), integer(4)), cell(intAt(bottom), integer(5)), cell(intAt(bottom), integer(6)))
	return s.seed(intAt(bottom), integer(1)).seed(refAt(bottom, bottom), ref(1)).seed(funAt(bottom), fun(0, integer(2)))
}

// TestSomething (P19.1): with all that it needs there is a view.
func TestSomething(t *testing.T) {
	for label := range 4 {
		seen().tells(t, label, "1\nr0\nf0[2]\n5\n")
	}
}

// TestNoLabel (P19.1): no text, where the label is none, or the lattice isn't formed.
func TestNoLabel(t *testing.T) {
	for _, label := range noLabels(diamond()) {
		seen().tells(t, label, "")
	}
	for _, l := range unformed() {
		for label := -1; label < 3; label++ {
			scene{L: l}.seed(intAt(0), integer(1)).tells(t, label, "")
			scene{L: l}.tells(t, label, "")
		}
	}
	// Of a formed lattice of one label there is just that.
	one := scene{L: lattices()[0]}.seed(intAt(0), integer(1))
	one.tells(t, 0, "1\n")
	one.tells(t, 1, "")
}

// oddTypes aren't formed.
func oddTypes() []api.Type {
	return []api.Type{
		{}, intAt(4), intAt(none), typed(6, 0), typed(-1, 0), typed(api.Int, 0, intAt(0)), typed(api.Pair, 0, intAt(0)), typed(api.Pair, 0, intAt(0), intAt(4)), typed(api.Ref, 0), typed(api.Ref, top, intAt(none)),
		{Kind: api.Int, Heap: 1}, {Kind: api.Int, Exc: none}, {Kind: api.Fun, Parts: []api.Type{intAt(0), intAt(0)}, Exc: -2}, {Kind: api.Fun, Parts: []api.Type{intAt(0), intAt(0)}, Heap: 4}, nested(api.MaxDeep + 1), full(api.MaxDeep),
	}
}

// oddValues aren't formed.
func oddValues() []api.Value {
	many := fun(0)
	for range api.MaxValue {
		many.Parts = append(many.Parts, integer(1))
	}
	return []api.Value{
		{}, {Kind: 6}, {Kind: api.Bool, N: 2}, {Kind: api.Int, Parts: []api.Value{integer(1)}}, {Kind: api.Pair}, {Kind: api.Pair, N: 1, Parts: []api.Value{integer(1), integer(2)}}, pair(integer(1), boolean(-1)),
		fun(-1), fun(api.MaxFuncs), fun(0, api.Value{}), ref(-1), ref(1 << 31), many,
	}
}

// TestUnformed (P19.1): no text, where a seed's or a cell's type or value isn't formed, be it seen or not, the first one, one between or the last one, met or not.
func TestUnformed(t *testing.T) {
	refused := func(name string, i int, change func(s *scene, at int)) {
		for at := range 3 {
			s := seen()
			change(&s, at)
			for label := range 4 {
				if got := s.view(label); got != "" {
					t.Errorf("%s %d at %d: %d sees %s", name, i, at, label, got)
				}
			}
		}
	}
	for i, odd := range oddTypes() {
		refused("a seed's type", i, func(s *scene, at int) { s.Seeds[at].T = odd })
		refused("a cell's type", i, func(s *scene, at int) { s.Cells[at].Type = odd })
	}
	for i, odd := range oddValues() {
		refused("a seed's value", i, func(s *scene, at int) { s.Seeds[at].V = odd })
		refused("a cell's value", i, func(s *scene, at int) { s.Cells[at].Value = odd })
	}
}

// TestEdges (P19.1): types and values as great as may be.
func TestEdges(t *testing.T) {
	big := fun(0)
	for range api.MaxValue - 1 {
		big.Parts = append(big.Parts, integer(1))
	}
	s := of(nil, cell(nested(api.MaxDeep), ref(0)), cell(intAt(top), fun(api.MaxFuncs-1))).seed(nested(api.MaxDeep), ref(0)).seed(funAt(top), big).seed(intAt(top), ref(1<<31-1)).seed(full(api.MaxDeep-1), integer(1))
	s.tells(t, top, "r0\n?\n?\n?\nr0\n")
}

// TestFuncsAsked (P19.1): functions are asked for nothing but their Caps.
func TestFuncsAsked(t *testing.T) {
	odd := api.Func{Param: api.Type{Kind: 9}, Result: intAt(none), Caps: []api.Type{intAt(left)}, Heap: 77, Exc: -9, Slots: -1, Code: make([]api.Ins, 3), Points: make([]api.Point, 9)}
	s := scene{L: diamond(), Funcs: []api.Func{odd, odd}, Seeds: []observe.Seed{{T: funAt(left), V: fun(1, integer(3))}}}
	s.tells(t, left, "f1[3]\n")
}
