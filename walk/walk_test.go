package walk_test

import (
	"testing"

	"palisade/walk"
)

type tree struct {
	n     int
	parts []tree
}

func partsOf(t tree) []tree {
	return t.parts
}

func same(s, t tree) bool {
	return walk.Everywhere(s, t, partsOf, func(s, t tree) bool { return s.n == t.n && len(s.parts) == len(t.parts) })
}

// line is a tree of one node below another, so deep, with last at its end.
func line(deep int, last tree) tree {
	for range deep - 1 {
		last = tree{parts: []tree{last}}
	}
	return last
}

// row is a tree of so many Parts, the last of which is that one.
func row(wide int, last tree) tree {
	parts := make([]tree, wide)
	for i := range parts {
		parts[i].parts = make([]tree, 1)
	}
	parts[wide-1] = last
	return tree{parts: parts}
}

// shared is a tree, so deep, whose two Parts are one and the same everywhere.
func shared(deep int, last tree) tree {
	for range deep - 1 {
		last = tree{parts: []tree{last, last}}
	}
	return last
}

// sharedRow is a tree, 20 deep, whose Parts, so many each, are one and the same list everywhere, with last at the end of the deepest.
func sharedRow(wide int, last tree) tree {
	t := row(wide, last)
	for range 18 {
		parts := make([]tree, wide)
		for i := range parts {
			parts[i] = t
		}
		t = tree{parts: parts}
	}
	return t
}

// ring is a tree that stands in itself behind these numbers.
func ring(numbers ...int) tree {
	parts := make([][]tree, len(numbers))
	for i := range parts {
		parts[i] = make([]tree, 1)
	}
	for i, n := range numbers {
		parts[i][0] = tree{n, parts[(i+1)%len(numbers)]}
	}
	return parts[0][0]
}

// TestLastNode: what doesn't hold at the last node is found, around the end of a stretch and far behind it.
func TestLastNode(t *testing.T) {
	made := map[string]func(size int, last tree) tree{"line": line, "row": row, "shared": shared}
	for name, make := range made {
		for _, size := range []int{1, 2, 3, 500, 1999, 2000, 2001, 3998, 3999, 4000, 4001, 4002, 4003, 4063, 4064, 4065, 4066, 4127, 4128, 4129, 4130, 8001, 10000} {
			s, alike, unlike := make(size, tree{n: 1}), make(size, tree{n: 1}), make(size, tree{n: 2})
			if !same(s, alike) || !same(s, s) {
				t.Errorf("%s of %d isn't alike", name, size)
			}
			if same(s, unlike) || same(unlike, s) {
				t.Errorf("%s of %d: the last one isn't seen", name, size)
			}
		}
	}
}

// TestSharedRow: a list that stands in very many places is gone through to its last one.
func TestSharedRow(t *testing.T) {
	for _, wide := range []int{2, 63, 64, 65, 300, 1000} {
		s, unlike := sharedRow(wide, tree{n: 1}), sharedRow(wide, tree{n: 2})
		if !same(s, s) || same(s, unlike) || same(unlike, s) {
			t.Errorf("%d wide: the last one isn't seen", wide)
		}
	}
}

// TestGreat: a depth and a width that are too much for one recursion.
func TestGreat(t *testing.T) {
	for _, make := range []func(size int, last tree) tree{line, row} {
		s, unlike := make(1_000_000, tree{n: 1}), make(1_000_000, tree{n: 2})
		if !same(s, s) || same(s, unlike) || same(unlike, s) {
			t.Error("the last one isn't seen")
		}
	}
}

// TestRings: what stands in itself is told by what it would be if gone through for ever.
func TestRings(t *testing.T) {
	if !same(ring(0), ring(0, 0, 0)) || !same(ring(0, 1), ring(0, 1, 0, 1)) || same(ring(0, 1), ring(1, 0)) || same(ring(0, 1, 0), ring(0, 1)) || same(ring(0), line(9000, tree{})) {
		t.Error("short rings")
	}
	long := make([]int, 9001)
	long[9000] = 1
	if same(ring(long...), ring(0)) || !same(ring(long...), ring(append(long, long...)...)) {
		t.Error("long rings")
	}
}

// TestListsOfOneBeginning: lists that begin at one place and are of unlike lengths are told apart.
func TestListsOfOneBeginning(t *testing.T) {
	parts := row(9000, tree{n: 1}).parts
	s := tree{parts: []tree{{parts: parts[:8999]}, {parts: parts}}}
	other := row(9000, tree{n: 2}).parts
	u := tree{parts: []tree{{parts: other[:8999]}, {parts: other}}}
	if same(s, u) || !same(s, s) {
		t.Error("the last of the longer list isn't seen")
	}
}
