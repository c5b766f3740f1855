package walk_test

import (
	"reflect"
	"testing"

	"palisade/walk"
)

func copied(t tree) tree {
	return walk.Copy(t, partsOf, func(t tree, parts []tree) tree {
		t.parts = parts
		return t
	})
}

// numbered gives each node of a tree a number of its own.
func numbered(t tree, next *int) tree {
	*next++
	t.n = *next
	for i, part := range t.parts {
		t.parts[i] = numbered(part, next)
	}
	return t
}

// met tells whether a list of t begins where one is known to begin, and adds those of t to the known ones.
func met(t tree, known map[*tree]int) bool {
	if len(t.parts) == 0 {
		return false
	}
	if known[&t.parts[0]]++; known[&t.parts[0]] > 1 {
		return true
	}
	for _, part := range t.parts {
		if met(part, known) {
			return true
		}
	}
	return false
}

// TestCopy: trees of fewer nodes than go by recursion, of as many, and of more, each as it was, in memory of its own.
func TestCopy(t *testing.T) {
	for name, made := range map[string]tree{
		"leaf": {n: 3}, "empty": {parts: []tree{}}, "line": line(30, tree{}), "row": row(100, tree{}), "bush": bush(6),
		"line of 4000": line(4000, tree{}), "line of 4001": line(4001, tree{}), "row of 4000": {parts: make([]tree, 3999)}, "row of 4001": {parts: make([]tree, 4000)}, "great bush": bush(14),
	} {
		next := 0
		made = numbered(made, &next)
		known := map[*tree]int{}
		got := copied(made)
		if !same(got, made) || met(made, known) || met(got, known) {
			t.Errorf("%s: another tree, or its memory", name)
		}
	}
}

// TestCopyShared: a small tree that shares memory is copied without that.
func TestCopyShared(t *testing.T) {
	made := shared(8, tree{n: 5})
	got := copied(made)
	if !reflect.DeepEqual(got, made) || met(got, map[*tree]int{}) {
		t.Error("another tree, or shared memory")
	}
}

// TestCopyGreat: trees of very many nodes, and such as stand in themselves, are soon copied, and are the same.
func TestCopyGreat(t *testing.T) {
	for name, made := range map[string]tree{
		"line": line(300_000, tree{}), "row": row(300_000, tree{}), "shared": shared(1000, tree{}), "shared row": sharedRow(1000, tree{}), "ring": ring(0), "rings": ring(1, 2, 3),
	} {
		got := copied(made)
		if !same(got, made) || &got.parts[0] == &made.parts[0] {
			t.Errorf("%s: another tree, or its memory", name)
		}
		reached, owned := lists(made), lists(got)
		for list := range owned {
			if reached[list] > 0 {
				t.Errorf("%s: memory is kept", name)
				break
			}
		}
		if len(owned) > len(reached) {
			t.Errorf("%s: %d lists of %d", name, len(owned), len(reached))
		}
	}
}

// lists are where the lists of a tree of any size begin.
func lists(t tree) map[*tree]int {
	known := map[*tree]int{}
	for later := [][]tree{t.parts}; len(later) > 0; {
		next := later[len(later)-1]
		later = later[:len(later)-1]
		if len(next) == 0 || known[&next[0]] == len(next) {
			continue
		}
		known[&next[0]] = len(next)
		for _, part := range next {
			later = append(later, part.parts)
		}
	}
	return known
}

// TestCopyTellsListsApart: lists that begin at one place and are of unlike lengths.
func TestCopyTellsListsApart(t *testing.T) {
	parts := make([]tree, 5000)
	for _, made := range []tree{{parts: []tree{{parts: parts[:4999]}, {parts: parts}}}, {parts: []tree{{parts: parts}, {parts: parts[:4999]}}}} {
		if got := copied(made); !same(got, made) {
			t.Error(len(got.parts[0].parts), len(got.parts[1].parts))
		}
	}
}
