package lattice_test

import (
	"slices"
	"strings"
	"testing"

	"palisade/api"
	"palisade/lattice"
)

// callAll makes all twelve calls on l, with all these numbers.
func callAll(l api.Lattice) {
	lattice.Formed(l)
	lattice.Bottom(l)
	lattice.Top(l)
	lattice.Same(l, l)
	lattice.Same(l, api.Lattice{})
	for _, name := range append([]string{"", "zz"}, l.Names...) {
		lattice.Name(name)
		lattice.Find(l, name)
	}
	for _, a := range numbers {
		lattice.Below(l, a)
		for _, b := range numbers {
			lattice.Leq(l, a, b)
			lattice.Join(l, a, b)
			lattice.Meet(l, a, b)
			lattice.Both(l, a, b)
			lattice.Make(l.Names, [][2]int{{a, b}})
		}
	}
}

// oddLattices are all the unformed ones, some formed, and great and ragged ones.
func oddLattices(t *testing.T) []api.Lattice {
	odd := []api.Lattice{
		diamond(t),
		{Names: make([]string, 1000), Order: make([][]bool, 1000)},
		{Names: letters(8), Order: make([][]bool, 8)},
		{Names: letters(3), Order: [][]bool{make([]bool, 1000), nil, {true}}},
		{Names: []string{strings.Repeat("a", 1<<20), strings.Repeat("a", 1<<20)}, Order: above("11", "01")},
	}
	for _, l := range unformed() {
		odd = append(odd, l)
	}
	for _, l := range greatLattices(t) {
		odd = append(odd, l)
	}
	return odd
}

// TestNothingPanics (R1).
func TestNothingPanics(t *testing.T) {
	for _, l := range oddLattices(t) {
		callAll(l)
	}
	lattice.Make(make([]string, 1<<20), make([][2]int, 1<<20))
}

// roomy is l in lists that have spare room with something in it.
func roomy(l api.Lattice) api.Lattice {
	names := append(slices.Clone(l.Names), "spare", "room")[:len(l.Names)]
	order := append(slices.Clone(l.Order), []bool{true}, nil)[:len(l.Order)]
	for a, row := range l.Order {
		order[a] = append(slices.Clone(row), true, false, true)[:len(row)]
	}
	return api.Lattice{Names: names, Order: order}
}

// whole is l with all spare room seen.
func whole(l api.Lattice) api.Lattice {
	seen := api.Lattice{Names: slices.Clone(l.Names[:cap(l.Names)])}
	for _, row := range l.Order[:cap(l.Order)] {
		seen.Order = append(seen.Order, slices.Clone(row[:cap(row)]))
	}
	return seen
}

// TestArgumentsAreLeft (R5): what is handed in is left as it is, its spare room too.
func TestArgumentsAreLeft(t *testing.T) {
	for _, l := range oddLattices(t) {
		handed := roomy(l)
		before := whole(handed)
		callAll(handed)
		if !lattice.Same(before, whole(handed)) {
			t.Errorf("%v was changed", l)
		}
	}
	names := append(letters(3), "spare")[:3]
	pairs := append([][2]int{{0, 1}, {1, 2}}, [2]int{9, 9})[:2]
	if _, e := lattice.Make(names, pairs); e != api.OK {
		t.Fatal(e)
	}
	if !slices.Equal(names[:4], append(letters(3), "spare")) || !slices.Equal(pairs[:3], [][2]int{{0, 1}, {1, 2}, {9, 9}}) {
		t.Error("what Make was handed was changed")
	}
}

// TestMakeIsNewMemory (R5): what was handed in isn't kept, and no two lists of the answer share any.
func TestMakeIsNewMemory(t *testing.T) {
	names, pairs := append(letters(3), "spare")[:3], [][2]int{{0, 1}, {1, 2}}
	l, e := lattice.Make(names, pairs)
	if e != api.OK {
		t.Fatal(e)
	}
	names[0], pairs[0] = "changed", [2]int{2, 0}
	want := api.Lattice{Names: letters(3), Order: above("111", "011", "001")}
	if !lattice.Same(l, want) {
		t.Errorf("the lattice has kept what was handed in: %v", l)
	}
	_ = append(l.Names, "more")
	if names[:4][3] != "spare" {
		t.Error("the names' spare room is shared")
	}
	for a := range l.Order {
		_ = append(l.Order[a], false, false, false, false, false, false)
		l.Order[a][0] = !l.Order[a][0]
		for b, row := range l.Order {
			if b != a && !slices.Equal(row, want.Order[b]) {
				t.Errorf("the rows %d and %d share memory", a, b)
			}
		}
		l.Order[a][0] = !l.Order[a][0]
	}
	if again, _ := lattice.Make(letters(3), [][2]int{{0, 1}, {1, 2}}); !lattice.Same(again, want) {
		t.Error("the second answer hangs on the first")
	}
}

// TestBelowIsNewMemory (R5).
func TestBelowIsNewMemory(t *testing.T) {
	l := diamond(t)
	first := lattice.Below(l, 3)
	first[0] = 7
	_ = append(first, 8)
	if second := lattice.Below(l, 3); !slices.Equal(second, []int{0, 1, 2, 3}) || !lattice.Same(l, diamond(t)) {
		t.Error("the answer is shared")
	}
}

// TestAnswersHangOnNothingElse: a lattice is asked by what it holds, not by what was made ahead or by spare room.
func TestAnswersHangOnNothingElse(t *testing.T) {
	for _, l := range greatLattices(t) {
		sameAsReference(t, roomy(l))
	}
}
