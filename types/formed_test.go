package types_test

import (
	"math"
	"testing"

	"palisade/api"
	"palisade/types"
)

// forty is a type of MaxNodes nodes that is MaxDeep deep.
func forty() api.Type {
	return pair(0, tree(5), ref(0, tree(3)))
}

// fortyOne has one node more, and is no deeper.
func fortyOne() api.Type {
	return pair(0, tree(5), pair(0, tree(3), integer(0)))
}

// TestNodes (P2.1): MaxNodes, one more, and many more.
func TestNodes(t *testing.T) {
	for _, x := range []struct {
		t    api.Type
		want int
	}{
		{api.Type{}, 1}, {integer(0), 1}, {ref(0, integer(0)), 2}, {fun(0, integer(0), boolean(0), 0, 0), 3},
		{api.Type{Kind: api.Int, Parts: make([]api.Type, 38)}, 39},
		{api.Type{Kind: 9, Parts: make([]api.Type, 39)}, 40},
		{api.Type{Kind: 9, Parts: make([]api.Type, 40)}, 41},
		{api.Type{Kind: 9, Parts: make([]api.Type, 41)}, 41},
		{tree(5), 31}, {tree(6), 41}, {tree(16), 41}, {refs(39, integer(0)), 39},
		{refs(40, integer(0)), 40}, {refs(41, integer(0)), 41}, {refs(42, integer(0)), 41},
		{forty(), 40}, {fortyOne(), 41},
		{pair(0, forty(), integer(0)), 41}, {pair(0, integer(0), forty()), 41}, {ref(0, fortyOne()), 41},
	} {
		if got := types.Nodes(x.t); got != x.want {
			t.Errorf("Nodes of %v = %d", x.t, got)
		}
	}
}

// TestFormedSizes (P2.1): how many nodes, and how deep.
func TestFormedSizes(t *testing.T) {
	l := chain(t)
	nested := func(in api.Type) []api.Type {
		return []api.Type{ref(0, in), pair(0, in, integer(0)), pair(0, integer(0), in), fun(0, in, integer(0), 0, 0), fun(0, integer(0), in, 0, 0)}
	}
	if refNodes(forty()) != api.MaxNodes || refNodes(fortyOne()) != api.MaxNodes+1 || refDeep(forty()) != api.MaxDeep || refDeep(fortyOne()) != api.MaxDeep {
		t.Fatal("the edges aren't what they are to be")
	}
	if !types.Formed(l, forty()) || types.Formed(l, fortyOne()) || types.Formed(l, tree(6)) {
		t.Error("nodes")
	}
	for _, x := range nested(refs(5, integer(0))) {
		if !types.Formed(l, x) {
			t.Errorf("%v isn't formed", x)
		}
	}
	for _, x := range nested(refs(6, integer(0))) {
		if types.Formed(l, x) {
			t.Errorf("%v is formed", x)
		}
	}
}

// TestFormedWords (P2.1): each of the chapter's words by itself.
func TestFormedWords(t *testing.T) {
	l := chain(t)
	parts := func(n int) []api.Type { return []api.Type{integer(0), integer(0), integer(0)}[:n] }
	for _, x := range []struct {
		what string
		t    api.Type
		want bool
	}{
		{"zero type", api.Type{}, false},
		{"an Int", integer(1), true},
		{"an Int of no label", integer(2), false},
		{"an Int of None", integer(api.None), false},
		{"an Int with a part", api.Type{Kind: api.Int, Parts: parts(1)}, false},
		{"an Int with no parts, not nil", api.Type{Kind: api.Int, Parts: []api.Type{}}, true},
		{"an Int with a Heap", api.Type{Kind: api.Int, Heap: 1}, false},
		{"an Int with an Exc", api.Type{Kind: api.Int, Exc: 1}, false},
		{"an Int with None for Exc", api.Type{Kind: api.Int, Exc: api.None}, false},
		{"an Int with None for Heap", api.Type{Kind: api.Int, Heap: api.None}, false},
		{"a Bool", boolean(0), true},
		{"a Bool with parts", api.Type{Kind: api.Bool, Parts: parts(2)}, false},
		{"a Bool with None for Exc", api.Type{Kind: api.Bool, Exc: api.None}, false},
		{"a Pair of one", api.Type{Kind: api.Pair, Parts: parts(1)}, false},
		{"a Pair of none", api.Type{Kind: api.Pair}, false},
		{"a Pair of two", api.Type{Kind: api.Pair, Parts: parts(2)}, true},
		{"a Pair of three", api.Type{Kind: api.Pair, Parts: parts(3)}, false},
		{"a Pair with an Exc", api.Type{Kind: api.Pair, Parts: parts(2), Exc: api.None}, false},
		{"a Pair with a Heap", api.Type{Kind: api.Pair, Parts: parts(2), Heap: 1}, false},
		{"a Fun of one", api.Type{Kind: api.Fun, Parts: parts(1)}, false},
		{"a Fun of two", api.Type{Kind: api.Fun, Parts: parts(2)}, true},
		{"a Fun of three", api.Type{Kind: api.Fun, Parts: parts(3)}, false},
		{"a Fun with None for Exc", api.Type{Kind: api.Fun, Parts: parts(2), Exc: api.None}, true},
		{"a Fun with less than None for Exc", api.Type{Kind: api.Fun, Parts: parts(2), Exc: -2}, false},
		{"a Fun with the last label for Exc", api.Type{Kind: api.Fun, Parts: parts(2), Exc: 1}, true},
		{"a Fun with more for Exc", api.Type{Kind: api.Fun, Parts: parts(2), Exc: 2}, false},
		{"a Fun with the last label for Heap", api.Type{Kind: api.Fun, Parts: parts(2), Heap: 1}, true},
		{"a Fun with more for Heap", api.Type{Kind: api.Fun, Parts: parts(2), Heap: 2}, false},
		{"a Fun with None for Heap", api.Type{Kind: api.Fun, Parts: parts(2), Heap: api.None}, false},
		{"a Ref of none", api.Type{Kind: api.Ref}, false},
		{"a Ref of one", api.Type{Kind: api.Ref, Parts: parts(1)}, true},
		{"a Ref of two", api.Type{Kind: api.Ref, Parts: parts(2)}, false},
		{"a Ref with an Exc", api.Type{Kind: api.Ref, Parts: parts(1), Exc: api.None}, false},
		{"a Ref with a Heap", api.Type{Kind: api.Ref, Parts: parts(1), Heap: 1}, false},
		{"a Kind after the last", api.Type{Kind: 6}, false},
		{"a Kind ahead of the first", api.Type{Kind: -1}, false},
		{"a Ref of no type", ref(0, api.Type{}), false},
		{"a Pair whose second isn't formed", pair(0, integer(0), integer(2)), false},
		{"a Pair whose first isn't formed", pair(0, integer(2), integer(0)), false},
	} {
		if got := types.Formed(l, x.t); got != x.want {
			t.Errorf("%s: %v", x.what, got)
		}
	}
}

// changed are all types that differ from x in one thing of one node.
func changed(x api.Type) []api.Type {
	var all []api.Type
	for _, kind := range []int{0, 1, 2, 3, 4, 5, 6, -1, math.MaxInt, math.MinInt} {
		other := x
		other.Kind = kind
		all = append(all, other)
	}
	for _, n := range numbers {
		label, heap, exc := x, x, x
		label.Label, heap.Heap, exc.Exc = n, n, n
		all = append(all, label, heap, exc)
	}
	for n := range 4 {
		other := x
		other.Parts = append(copied(x).Parts, integer(0), integer(0), integer(0))[:n]
		all = append(all, other)
	}
	for i, part := range x.Parts {
		for _, otherPart := range changed(part) {
			other := copied(x)
			other.Parts[i] = otherPart
			all = append(all, other)
		}
	}
	return all
}

// samples are types of two labels that are formed, of all Kinds and at the edges.
func samples() []api.Type {
	return []api.Type{
		integer(0), integer(1), boolean(1),
		ref(0, integer(1)), pair(1, integer(0), boolean(1)),
		fun(0, integer(1), boolean(0), 1, api.None), fun(1, integer(0), integer(1), 0, 1),
		fun(1, ref(0, boolean(0)), pair(0, integer(1), fun(0, integer(0), integer(0), 1, 0)), 0, api.None),
		ref(1, fun(0, integer(0), ref(0, integer(0)), 1, 1)),
		refs(6, boolean(1)), forty(),
	}
}

// TestChangedTypes (P2.1, P2.2): one thing of one node changed, against the reference; what isn't formed is below nothing, has no bounds and can't be raised.
func TestChangedTypes(t *testing.T) {
	l := chain(t)
	for _, x := range samples() {
		for _, other := range changed(x) {
			formed := refFormed(2, other)
			if types.Formed(l, other) != formed {
				t.Fatalf("Formed of %v: %v", other, !formed)
			}
			if types.Same(x, other) != refSame(x, other) || types.Same(other, x) != refSame(x, other) || !types.Same(other, copied(other)) {
				t.Fatalf("Same of %v and %v", x, other)
			}
			if types.Plain(other) != refPlain(other) || types.Nodes(other) != min(refNodes(other), 41) {
				t.Fatalf("of %v: Plain %v, %d nodes", other, types.Plain(other), types.Nodes(other))
			}
			if !formed {
				nothingOf(t, l, other, x)
				nothingOf(t, l, other, other)
			}
		}
	}
}

// nothingOf holds of x, which isn't formed of l, beside any type.
func nothingOf(t *testing.T, l api.Lattice, x, beside api.Type) {
	t.Helper()
	if types.Below(l, x, beside) || types.Below(l, beside, x) {
		t.Fatalf("Below of %v and %v", x, beside)
	}
	for _, a := range numbers {
		if got := types.Raise(l, x, a); !refSame(got, api.Type{}) {
			t.Fatalf("Raise of %v by %d: %v", x, a, got)
		}
	}
	for _, bound := range []func(api.Lattice, api.Type, api.Type) (api.Type, bool){types.Join, types.Meet} {
		for _, both := range [][2]api.Type{{x, beside}, {beside, x}} {
			if got, ok := bound(l, both[0], both[1]); ok || !refSame(got, api.Type{}) {
				t.Fatalf("a bound of %v: %v, %v", both, got, ok)
			}
		}
	}
}

// TestNoLattice (P2.1, P2.2): of a lattice that isn't formed no type is.
func TestNoLattice(t *testing.T) {
	for name, l := range unformed() {
		for _, x := range append(samples(), api.Type{}, fortyOne()) {
			if types.Formed(l, x) {
				t.Errorf("%s: %v is formed", name, x)
			}
			nothingOf(t, l, x, x)
		}
	}
}

// TestLabelsOfTheLattice (P2.1): a type is formed of one lattice, and not of another that has fewer labels.
func TestLabelsOfTheLattice(t *testing.T) {
	for _, x := range []api.Type{integer(2), fun(0, integer(0), integer(0), 2, 0), fun(0, integer(0), integer(0), 0, 2), ref(0, boolean(2))} {
		if types.Formed(chain(t), x) || !types.Formed(turned(t), x) || !types.Formed(diamond(t), x) {
			t.Errorf("Formed of %v", x)
		}
	}
}
