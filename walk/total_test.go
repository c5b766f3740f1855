package walk_test

import (
	"math"
	"math/rand"
	"testing"

	"palisade/walk"
)

// total is how many nodes of t have a number that isn't 0.
func total(t tree, most int) int {
	return walk.Total(t, partsOf, func(t tree) bool { return t.n != 0 }, most)
}

// marked gives every node of t the number 1.
func marked(t tree) tree {
	t.n = 1
	for i, part := range t.parts {
		t.parts[i] = marked(part)
	}
	return t
}

// TestTotal: trees whose nodes are all such, none, the last alone, with fewer of them than the bound, as many, and more.
func TestTotal(t *testing.T) {
	for most := range 40 {
		for _, c := range []struct {
			tree tree
			want int
		}{
			{tree{}, 0}, {tree{n: 1}, 1}, {tree{n: 1, parts: []tree{}}, 1}, {line(20, tree{}), 0}, {line(20, tree{n: 1}), 1}, {marked(line(20, tree{})), 20}, {bush(5), 0}, {marked(bush(5)), 31},
			{row(9, tree{n: 1}), 1}, {marked(row(9, tree{})), 18}, {tree{n: 1, parts: []tree{line(5, tree{n: 1}), marked(bush(2)), line(2, tree{})}}, 5},
		} {
			if got := total(c.tree, most); got != min(c.want, most) {
				t.Errorf("%d, at most %d: %d", c.want, most, got)
			}
		}
	}
}

// TestTotalDrawn: drawn trees whose lists share memory, held against going through all of it.
func TestTotalDrawn(t *testing.T) {
	drawn := rand.New(rand.NewSource(1))
	for range 3000 {
		made := []tree{{}, {n: 1}}
		for range 1 + drawn.Intn(9) {
			var parts []tree
			for range drawn.Intn(4) {
				parts = append(parts, made[drawn.Intn(len(made))])
			}
			made = append(made, tree{n: drawn.Intn(2), parts: parts[:len(parts)-drawn.Intn(min(2, len(parts)+1))]})
		}
		last := made[len(made)-1]
		if got, want := total(last, math.MaxInt), plainTotal(last); got != want {
			t.Fatalf("%d; want %d", got, want)
		}
	}
}

func plainTotal(t tree) int {
	all := t.n
	for _, part := range t.parts {
		all += plainTotal(part)
	}
	return all
}

// TestTotalGreat: trees of very many nodes, in memory of their own or not.
func TestTotalGreat(t *testing.T) {
	for name, c := range map[string]struct {
		tree tree
		want int
	}{
		"line": {line(1_000_000, tree{n: 1}), 1}, "row": {row(1_000_000, tree{n: 1}), 1}, "shared": {shared(63, tree{n: 1}), 1 << 62}, "more than there are numbers": {shared(64, tree{n: 1}), math.MaxInt},
		"far more": {shared(10_000, tree{n: 1}), math.MaxInt}, "none": {shared(10_000, tree{}), 0}, "shared row": {sharedRow(10, tree{n: 1}), 1_000_000_000_000_000_000},
	} {
		if got := total(c.tree, math.MaxInt); got != c.want {
			t.Errorf("%s: %d", name, got)
		}
	}
}

// TestTotalRings: a ring has no end of such nodes where one stands in it or is to be come to from it, else none.
func TestTotalRings(t *testing.T) {
	beside := make([]tree, 2)
	beside[0].parts, beside[1] = beside, line(9, tree{n: 1})
	for _, c := range []struct {
		tree tree
		want int
	}{
		{ring(0), 0}, {ring(0, 0, 0), 0}, {ring(1), 70}, {ring(0, 0, 1), 70}, {ring(0, 1, 0), 70}, {tree{n: 1, parts: []tree{ring(0), ring(0, 0)}}, 1}, {tree{parts: []tree{ring(0), line(9, tree{n: 1})}}, 1},
		{tree{parts: []tree{line(9, ring(0, 1)), {n: 1}}}, 70}, {tree{parts: beside}, 70}, {line(9, beside[0]), 70},
	} {
		if got := total(c.tree, 70); got != c.want {
			t.Errorf("%d; want %d", got, c.want)
		}
	}
}

// TestTotalTellsListsApart: lists that begin at one place and are of unlike lengths.
func TestTotalTellsListsApart(t *testing.T) {
	parts := []tree{{n: 1}, {n: 1}, {n: 1}}
	for _, made := range []tree{{parts: []tree{{parts: parts[:2]}, {parts: parts}}}, {parts: []tree{{parts: parts}, {parts: parts[:2]}}}} {
		if got := total(made, 9); got != 5 {
			t.Error(got)
		}
	}
}
