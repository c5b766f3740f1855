package types_test

import (
	"testing"

	"palisade/api"
	"palisade/types"
)

// ring is a type that stands in itself: a Ref that holds a Ref that holds ..., after so many the first one again, each with its label.
func ring(labels ...int) api.Type {
	parts := make([][]api.Type, len(labels))
	for i := range parts {
		parts[i] = make([]api.Type, 1)
	}
	for i, a := range labels {
		parts[i][0] = api.Type{Kind: api.Ref, Label: a, Parts: parts[(i+1)%len(labels)]}
	}
	return parts[0][0]
}

// shared is a type that is so deep, whose two Parts are one and the same everywhere: 2^deep - 1 nodes, if gone through one by one.
func shared(deep int, last api.Type) api.Type {
	for range deep - 1 {
		last = pair(0, last, last)
	}
	return last
}

// wide is a type of so many Parts, the last of which is that one.
func wide(n int, last api.Type) api.Type {
	parts := make([]api.Type, n)
	for i := range parts {
		parts[i] = ref(0, integer(0))
	}
	parts[n-1] = last
	return api.Type{Kind: api.Pair, Parts: parts}
}

// great are types of very many nodes.
func great() map[string]api.Type {
	return map[string]api.Type{
		"deep":   refs(1_000_000, integer(0)),
		"wide":   wide(300_000, integer(0)),
		"a tree": tree(16),
		"shared": shared(1000, integer(0)),
		"a ring": ring(0),
		"rings":  ring(0, 1, 0, 1, 1),
	}
}

// callAll makes all eight calls.
func callAll(l api.Lattice, s, t api.Type) {
	types.Formed(l, s)
	types.Below(l, s, t)
	types.Join(l, s, t)
	types.Meet(l, s, t)
	types.Same(s, t)
	types.Nodes(s)
	types.Plain(s)
	for _, a := range numbers {
		types.Raise(l, s, a)
	}
}

// TestNothingPanics (R1).
func TestNothingPanics(t *testing.T) {
	odd := []api.Type{{}}
	for _, x := range great() {
		odd = append(odd, x)
	}
	for _, x := range samples() {
		odd = append(odd, x)
	}
	lattices := []api.Lattice{chain(t), turned(t), diamond(t)}
	for _, l := range unformed() {
		lattices = append(lattices, l)
	}
	for i, s := range odd {
		callAll(lattices[i%len(lattices)], s, s)
		for j, u := range odd {
			callAll(lattices[(i+j)%len(lattices)], s, u)
		}
	}
	for _, s := range changed(samples()[7]) {
		for _, l := range lattices {
			callAll(l, s, s)
		}
	}
}

// TestGreatTypes (P2.1): what is asked of types that aren't formed, of very many nodes.
func TestGreatTypes(t *testing.T) {
	l := chain(t)
	for name, x := range great() {
		if types.Formed(l, x) || types.Nodes(x) != api.MaxNodes+1 || !types.Plain(x) || !types.Same(x, x) || types.Same(x, integer(0)) || types.Same(integer(0), x) {
			t.Error(name)
		}
		nothingOf(t, l, x, integer(0))
		nothingOf(t, l, x, x)
	}
}

// TestLastOfGreatTypes (P2.1): Same and Plain go through all of a great type, to its last node.
func TestLastOfGreatTypes(t *testing.T) {
	made := map[string]func(last api.Type) api.Type{
		"deep":   func(last api.Type) api.Type { return refs(200_000, last) },
		"wide":   func(last api.Type) api.Type { return wide(200_000, last) },
		"shared": func(last api.Type) api.Type { return shared(1000, last) },
		"beside": func(last api.Type) api.Type { return pair(0, shared(1000, integer(0)), shared(1000, last)) },
	}
	last := fun(0, integer(0), integer(0), 0, 0)
	for name, make := range made {
		x := make(integer(0))
		for _, other := range []api.Type{integer(1), boolean(0), {Kind: api.Int, Heap: 1}, {Kind: api.Int, Exc: 1}, ref(0, integer(0))} {
			if y := make(other); types.Same(x, y) || types.Same(y, x) || !types.Same(y, make(other)) || !types.Plain(y) {
				t.Errorf("%s: Same, with %v at the end", name, other)
			}
		}
		if !types.Same(x, make(integer(0))) || types.Plain(make(last)) || types.Plain(make(pair(0, integer(0), last))) {
			t.Errorf("%s: Plain", name)
		}
	}
}

// TestEachNodeOfATree (P2.1): a difference, a Fun at any node of a tree of some thousand nodes is seen.
func TestEachNodeOfATree(t *testing.T) {
	x, y := tree(12), tree(12)
	var visit func(node *api.Type)
	visit = func(node *api.Type) {
		before := node.Kind
		node.Kind = api.Fun
		if types.Same(x, y) || types.Same(y, x) || types.Plain(y) {
			t.Fatal("a Fun isn't seen")
		}
		node.Kind = before
		for i := range node.Parts {
			visit(&node.Parts[i])
		}
	}
	visit(&y)
	if !types.Same(x, y) || !types.Plain(y) {
		t.Error("a tree as it is")
	}
}

// TestRings (R1): types that stand in themselves are told by what they would be if gone through for ever.
func TestRings(t *testing.T) {
	if !types.Same(ring(0), ring(0)) || !types.Same(ring(0), ring(0, 0, 0)) || !types.Same(ring(0, 1), ring(0, 1, 0, 1)) || !types.Same(ring(1, 1), ring(1, 1, 1)) {
		t.Error("rings that are alike")
	}
	if types.Same(ring(0), ring(1)) || types.Same(ring(0, 1), ring(1, 0)) || types.Same(ring(0, 1, 0), ring(0, 1)) || types.Same(ring(0), refs(5000, integer(0))) {
		t.Error("rings that are unlike")
	}
	long := make([]int, 3001)
	long[3000] = 1
	if types.Same(ring(long...), ring(0)) || !types.Same(ring(long...), ring(append(long, long...)...)) {
		t.Error("long rings")
	}
	x := ring(0, 0)
	x.Parts[0].Kind = api.Fun
	if types.Plain(x) || !types.Plain(ring(0, 1)) {
		t.Error("Plain of rings")
	}
}

// TestListsOfOneBeginning (P2.1): lists that begin at one place and are of unlike lengths are told apart.
func TestListsOfOneBeginning(t *testing.T) {
	parts := make([]api.Type, 5000)
	for i := range parts {
		parts[i] = ref(0, integer(0))
	}
	parts[4999].Kind = api.Fun
	x := pair(0, api.Type{Kind: api.Pair, Parts: parts[:4999]}, api.Type{Kind: api.Pair, Parts: parts})
	y := copied(x)
	y.Parts[1].Parts[4999].Kind = api.Ref
	if types.Same(x, y) || types.Plain(x) || !types.Plain(y) {
		t.Error("the last of the longer list isn't seen")
	}
}

// roomy is t in lists that have spare room with something in it.
func roomy(t api.Type) api.Type {
	parts := make([]api.Type, 0, len(t.Parts)+3)
	for _, part := range t.Parts {
		parts = append(parts, roomy(part))
	}
	t.Parts = append(parts, integer(7), boolean(8), api.Type{Kind: 9})[:len(t.Parts)]
	return t
}

// whole is t with all spare room seen.
func whole(t api.Type) api.Type {
	var parts []api.Type
	for _, part := range t.Parts[:cap(t.Parts)] {
		parts = append(parts, whole(part))
	}
	t.Parts = parts
	return t
}

// TestArgumentsAreLeft (R5): what is handed in is left as it is, its spare room too; a list of no elements may be nil or empty.
func TestArgumentsAreLeft(t *testing.T) {
	l := chain(t)
	for _, x := range append(samples(), api.Type{}, fortyOne(), fun(0, integer(0), integer(0), 5, 5)) {
		s, u := roomy(x), roomy(x)
		before := whole(s)
		callAll(l, s, u)
		if !refSame(before, whole(s)) || !refSame(before, whole(u)) {
			t.Errorf("%v was changed", x)
		}
		if !refSame(types.Raise(l, s, 1), types.Raise(l, x, 1)) || types.Formed(l, s) != types.Formed(l, x) || types.Nodes(s) != types.Nodes(x) || !types.Same(s, x) || !types.Same(s, copied(x)) {
			t.Errorf("%v: an answer hangs on spare room", x)
		}
	}
}

// places adds where all Parts of t stand, spare room too, to those that are known, and tells whether they were unknown.
func places(t api.Type, known map[*api.Type]int) bool {
	parts := t.Parts[:cap(t.Parts)]
	for i := range parts {
		if known[&parts[i]]++; known[&parts[i]] > 1 {
			return false
		}
	}
	for _, part := range parts {
		if !places(part, known) {
			return false
		}
	}
	return true
}

// TestAnswersAreNewMemory (R5): no list of an answer shares memory with an argument, or with another one.
func TestAnswersAreNewMemory(t *testing.T) {
	l := chain(t)
	for _, x := range samples() {
		s, u := roomy(x), roomy(x)
		join, _ := types.Join(l, s, u)
		meet, _ := types.Meet(l, s, u)
		one, _ := types.Join(l, s, s)
		for i, answer := range []api.Type{types.Raise(l, s, 0), types.Raise(l, s, 1), join, meet, one} {
			known := map[*api.Type]int{}
			if !places(s, known) || !places(u, known) || !places(answer, known) {
				t.Errorf("answer %d of %v shares memory", i, x)
			}
		}
		// Parts that share memory in an argument don't in the answer.
		same := pair(0, s, s)
		if types.Nodes(same) <= api.MaxNodes && !places(types.Raise(l, same, 1), map[*api.Type]int{}) {
			t.Errorf("Raise of a Pair of %v shares memory", x)
		}
		if join, ok := types.Join(l, same, same); ok && !places(join, map[*api.Type]int{}) {
			t.Errorf("Join of a Pair of %v shares memory", x)
		}
	}
}
