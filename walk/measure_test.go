package walk_test

import (
	"testing"

	"palisade/walk"
)

func count(t tree, most int) int {
	return walk.Count(t, partsOf, most)
}

func deep(t tree, most int) int {
	return walk.Deep(t, partsOf, most)
}

// bush is a tree, so deep, of two Parts everywhere.
func bush(deep int) tree {
	if deep == 1 {
		return tree{}
	}
	return tree{parts: []tree{bush(deep - 1), bush(deep - 1)}}
}

// TestCount: trees of fewer nodes than the bound, of as many, and of more.
func TestCount(t *testing.T) {
	for most := range 40 {
		for nodes, made := range map[int]tree{1: {}, 2: line(2, tree{}), 20: line(20, tree{}), 7: bush(3), 31: bush(5), 10: {parts: make([]tree, 9)}, 11: {parts: []tree{line(5, tree{}), bush(2), line(2, tree{})}}} {
			if got := count(made, most); got != min(nodes, most+1) {
				t.Errorf("%d nodes, at most %d: %d", nodes, most, got)
			}
		}
	}
}

// TestDeep: trees less deep than the bound, as deep, and deeper, the deepest Part being the first, the last or one between.
func TestDeep(t *testing.T) {
	for most := range 40 {
		for size := range 40 {
			for i := range 3 {
				parts := make([]tree, 3)
				parts[i] = line(size+1, tree{})
				if got := deep(tree{parts: parts}, most); got != min(size+2, most+1) {
					t.Errorf("%d deep, at most %d: %d", size+2, most, got)
				}
			}
			if got := deep(line(size+1, tree{}), most); got != min(size+1, most+1) {
				t.Errorf("%d deep, at most %d: %d", size+1, most, got)
			}
		}
	}
	if deep(tree{parts: []tree{}}, 3) != 1 || deep(bush(5), 9) != 5 {
		t.Error("no Parts, or many")
	}
}

// TestMeasureGreat: trees of very many nodes, and such as stand in themselves, are soon measured.
func TestMeasureGreat(t *testing.T) {
	for name, made := range map[string]struct {
		tree tree
		deep int
	}{
		"line": {line(1_000_000, tree{}), 31}, "row": {row(1_000_000, tree{}), 3}, "shared": {shared(1000, tree{}), 31}, "shared row": {sharedRow(5000, tree{}), 21}, "shared, not deep": {shared(30, tree{}), 30},
		"ring": {ring(0), 31}, "rings": {ring(1, 2, 3), 31},
	} {
		if got := deep(made.tree, 30); got != made.deep {
			t.Errorf("%s: %d deep", name, got)
		}
		if got := count(made.tree, 2000); got != 2001 {
			t.Errorf("%s: %d nodes", name, got)
		}
	}
}

// TestDeepTellsListsApart: lists that begin at one place and are of unlike lengths.
func TestDeepTellsListsApart(t *testing.T) {
	parts := make([]tree, 10)
	parts[9] = line(5, tree{})
	for _, made := range []tree{{parts: []tree{{parts: parts[:9]}, {parts: parts}}}, {parts: []tree{{parts: parts}, {parts: parts[:9]}}}} {
		if got := deep(made, 30); got != 7 {
			t.Error(got)
		}
	}
}
