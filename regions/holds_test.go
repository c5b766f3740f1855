package regions_test

import (
	"fmt"
	"math"
	"slices"
	"testing"

	"palisade/api"
)

// TestHolds (P16.2): all conditions hold.
func TestHolds(t *testing.T) {
	f := fork()
	holds(t, "the chapter's", f, nil, 0, 4, []int{1, 2, 3}, 0)
	holds(t, "to a later join", f, nil, 0, 5, []int{1, 2, 3, 4}, 0)
	holds(t, "with a place that needs not be there", f, nil, 1, 4, []int{2, 3}, 0)
	holds(t, "to the last place", nested(), nil, 2, 11, []int{3, 4, 5, 6, 8, 9, 10}, 0)
	holds(t, "to None", f, nil, 0, none, span(1, 5), 0)
	holds(t, "of one way", f, nil, 1, 2, nil, 0)
	holds(t, "of one way to None", f, nil, 4, none, []int{5}, 0)
	holds(t, "of the last place", f, nil, 5, none, nil, 0)
	holds(t, "with its own place", f, nil, 0, 4, span(0, 3), 0)
	holds(t, "of all places", f, nil, 0, none, span(0, 5), 0)
	holds(t, "a handler", caught(), nil, 1, 5, []int{2, 3, 4}, 0)
	holds(t, "what leaves, to None", put(f, 2, op(api.OpRaise)), nil, 0, none, span(1, 5), 0)
	holds(t, "itself leaves, to None", function(op(api.OpDiv), op(api.OpReturn)), nil, 0, none, []int{1}, 0)
	holds(t, "nothing goes on", function(op(0), op(api.OpReturn)), nil, 0, 1, nil, 0)
}

// TestFirstCondition (P16.2): a way from its place leads elsewhere.
func TestFirstCondition(t *testing.T) {
	f := fork()
	holds(t, "the way that jumps", f, nil, 0, 4, []int{1, 2}, 1)
	holds(t, "the next place", f, nil, 0, 4, []int{3}, 1)
	holds(t, "another join", f, nil, 1, 4, nil, 1)
	holds(t, "to None", f, nil, 0, none, []int{1, 2, 4, 5}, 1)
	holds(t, "one way, to None", f, nil, 4, none, nil, 1)
	holds(t, "the handler", caught(), nil, 1, 5, []int{2, 3}, 1)
	holds(t, "its own place alone", f, nil, 0, 4, []int{0}, 1)
	g := handled(put(long(4), 1, op(api.OpCall)), api.Handler{From: 1, To: 2, At: 3})
	holds(t, "a call that raises", g, always(4), 1, 2, nil, 1)
	holds(t, "a call that doesn't", g, nil, 1, 2, nil, 0)
}

// TestSecondCondition (P16.2): a way from one of the Places leads elsewhere.
func TestSecondCondition(t *testing.T) {
	f := fork()
	holds(t, "past a place", f, nil, 0, 4, []int{1, 3}, 2)
	holds(t, "past the join", f, nil, 0, 5, []int{1, 2, 3}, 2)
	holds(t, "to None", f, nil, 0, none, []int{1, 2, 3}, 2)
	holds(t, "a place that isn't come to", f, nil, 1, 2, []int{4}, 2)
	holds(t, "the join among the Places", f, nil, 0, 4, []int{1, 2, 3, 4}, 2)
	holds(t, "its own place among them", f, nil, 2, 4, []int{0}, 2)
	g := handled(put(long(5), 2, op(api.OpCall)), api.Handler{From: 2, To: 3, At: 4})
	holds(t, "a call that raises", g, always(5), 0, 3, []int{1, 2}, 2)
	holds(t, "a call that doesn't", g, []bool{true, true}, 0, 3, []int{1, 2}, 0)
}

// TestThirdCondition (P16.2): with a join, its place or one of its Places leaves.
func TestThirdCondition(t *testing.T) {
	f := fork()
	for _, which := range []int{api.OpRaise, api.OpReturn} {
		holds(t, fmt.Sprint("Op ", which), put(f, 2, op(which)), nil, 0, 4, []int{1, 2, 3}, 3)
		holds(t, fmt.Sprint("Op ", which, ", itself"), put(f, 0, op(which)), nil, 0, 4, nil, 3)
		holds(t, fmt.Sprint("Op ", which, ", itself, to None"), put(f, 0, op(which)), nil, 0, none, nil, 0)
	}
	for _, which := range []int{api.OpDiv, api.OpMod, api.OpCall} {
		g := put(f, 3, op(which))
		name := fmt.Sprint("Op ", which)
		holds(t, name, g, always(6), 0, 4, []int{1, 2, 3}, 3)
		holds(t, name+", not a place of it", g, always(6), 1, 4, []int{2}, 0)
		holds(t, name+", itself", g, always(6), 3, 4, nil, 3)
		holds(t, name+", itself, to None", g, always(6), 3, none, []int{4, 5}, 0)
		holds(t, name+", the join", put(f, 4, op(which)), always(6), 0, 4, []int{1, 2, 3}, 0)
		holds(t, name+", that has a handler", handled(g, api.Handler{From: 3, To: 4, At: 4}), always(6), 0, 4, []int{1, 2, 3}, 0)
		holds(t, name+", whose handler is None", handled(g, api.Handler{From: 3, To: 4, At: none}), always(6), 0, 4, []int{1, 2, 3}, 3)
	}
	holds(t, "a call that doesn't raise", put(f, 3, op(api.OpCall)), always(3), 0, 4, []int{1, 2, 3}, 0)
	holds(t, "a place that isn't come to", f, nil, 1, 2, []int{5}, 3)
	holds(t, "the join among the Places", f, nil, 0, 5, span(1, 5), 3)
	holds(t, "itself, whichever the join", f, nil, 5, 0, nil, 3)
}

// TestFirstOfSeveral (P16.2): where several fail, the first is told.
func TestFirstOfSeveral(t *testing.T) {
	f := put(fork(), 2, op(api.OpRaise))
	holds(t, "the first and the second", f, nil, 0, 5, []int{3}, 1)
	holds(t, "the first and the third", f, nil, 0, 4, []int{1, 2}, 1)
	holds(t, "the second and the third", f, nil, 0, 5, []int{1, 2, 3}, 2)
	holds(t, "all three", f, nil, 0, 5, []int{1, 2, 4, 0}, 1)
	// The second fails at a place behind one at which the third does.
	holds(t, "the third ahead of the second", function(op(api.OpInt), op(api.OpDiv), op(api.OpInt), op(api.OpInt), op(api.OpReturn)), nil, 0, 4, []int{1, 2}, 2)
}

// TestNoRegion (P16.2): an At that is no place, a Join that is neither None nor one; this is asked ahead of all conditions.
func TestNoRegion(t *testing.T) {
	f := fork()
	for _, odd := range []int{math.MinInt, math.MinInt32, -1 << 16, -2, 6, 7, api.MaxCode, 65535, 1 << 32, math.MaxInt} {
		for _, places := range [][]int{nil, {1, 2, 3}, {odd}, span(0, 5)} {
			holds(t, "the At", f, nil, odd, 4, places, -1)
			holds(t, "the At, to None", f, nil, odd, none, places, -1)
			holds(t, "the Join", f, nil, 0, odd, places, -1)
			holds(t, "both", f, nil, odd, odd, places, -1)
			holds(t, "the Join, nothing goes on", f, nil, 5, odd, places, -1)
		}
	}
	holds(t, "None as At", f, nil, none, 4, []int{1, 2, 3}, -1)
	holds(t, "the zero region", f, nil, 0, 0, nil, 1)
	// Each Join that is a place is one, also ahead of At, and At itself.
	for join := range 6 {
		want := 2
		if join == 4 {
			want = 0
		}
		holds(t, "each Join", f, nil, 0, join, []int{1, 2, 3}, want)
	}
}

// TestPlaces (P16.2): Places that are none mean nothing; how often and in which order the others stand neither.
func TestPlaces(t *testing.T) {
	f := fork()
	odd := []int{math.MinInt, -2, -1, 6, 99, 1 << 32, math.MaxInt}
	for places, want := range map[[3]int]int{{1, 2, 3}: 0, {1, 3, 3}: 2, {1, 2, 2}: 1, {3, 2, 1}: 0, {3, 1, 2}: 0} {
		list := places[:]
		holds(t, "in that order", f, nil, 0, 4, list, want)
		holds(t, "twice", f, nil, 0, 4, slices.Concat(list, list), want)
		holds(t, "with such as are none behind", f, nil, 0, 4, slices.Concat(list, odd), want)
		holds(t, "with such as are none ahead", f, nil, 0, 4, slices.Concat(odd, list, odd), want)
	}
	holds(t, "none but such as are none", f, nil, 0, 4, odd, 1)
	holds(t, "of one way", f, nil, 1, 2, odd, 0)
	holds(t, "no Places", f, nil, 0, 4, nil, 1)
	holds(t, "no Places, an empty list", f, nil, 1, 2, []int{}, 0)
	holds(t, "many", f, nil, 0, 4, slices.Repeat([]int{3, 77, 1, 2}, 50000), 0)
}

// TestNoCode (P16.1, P16.2): without code nothing is a place.
func TestNoCode(t *testing.T) {
	for _, f := range []api.Func{{}, {Code: []api.Ins{}}, handled(api.Func{}, api.Handler{From: 0, To: 1, At: 0}, api.Handler{From: -1, To: 9, At: -1})} {
		for _, at := range []int{math.MinInt, -1, 0, 1, math.MaxInt} {
			asksNoPlace(t, f, at)
			for _, join := range []int{none, 0, at} {
				for _, places := range [][]int{nil, {0}, {at, at}, {3, 1, -1}} {
					holds(t, "without code", f, always(1), at, join, places, -1)
				}
			}
		}
		makes(t, "without code", f, always(1))
	}
}
