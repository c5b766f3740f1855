package regions_test

import (
	"fmt"
	"testing"

	"palisade/api"
	"palisade/regions"
)

// TestMake (P16.1): the regions of all places that branch, and of no others, rising.
func TestMake(t *testing.T) {
	makes(t, "without code", api.Func{}, nil)
	makes(t, "without branches", long(4), always(4))
	makes(t, "the chapter's", fork(), nil, api.Region{At: 0, Join: 4, Places: []int{1, 2, 3}})
	makes(t, "nested", nested(), nil,
		api.Region{At: 0, Join: 8, Places: span(1, 7)},
		api.Region{At: 2, Join: 6, Places: []int{3, 4, 5}},
		api.Region{At: 9, Join: 11, Places: []int{10}})
	makes(t, "a handler", caught(), nil, api.Region{At: 1, Join: 5, Places: []int{2, 3, 4}})
	makes(t, "a call too", caught(), []bool{5: true},
		api.Region{At: 1, Join: 5, Places: []int{2, 3, 4}},
		api.Region{At: 5, Join: none, Places: []int{6}})
	makes(t, "at once", put(long(4), 1, op(api.OpUnless, 2)), nil, api.Region{At: 1, Join: 2})
	makes(t, "at the last place", function(op(api.OpInt), op(api.OpUnless, 9)), nil, api.Region{At: 1, Join: none})
	makes(t, "one behind another", function(op(api.OpDiv), op(api.OpMod), op(api.OpReturn)), nil,
		api.Region{At: 0, Join: none, Places: []int{1, 2}},
		api.Region{At: 1, Join: none, Places: []int{2}})
	makes(t, "what isn't come to", function(op(api.OpReturn), op(api.OpUnless, 3), op(api.OpInt), op(api.OpReturn)), nil,
		api.Region{At: 1, Join: 3, Places: []int{2}})
}

// TestWhatBranches (P16.1): of each Op whether there is a region of it.
func TestWhatBranches(t *testing.T) {
	for which := range api.OpReturn + 2 {
		for _, raises := range [][]bool{nil, always(6)} {
			f := handled(put(long(6), 1, op(which, 3)), api.Handler{From: 1, To: 2, At: 4})
			var want []api.Region
			switch {
			case which == api.OpUnless:
				want = []api.Region{{At: 1, Join: 3, Places: []int{2}}}
			case which == api.OpDiv, which == api.OpMod, which == api.OpCall && raises != nil:
				want = []api.Region{{At: 1, Join: 4, Places: []int{2, 3}}}
			}
			makes(t, fmt.Sprint("Op ", which), f, raises, want...)
		}
	}
}

// TestLongMake (P16.1): of MaxCode instructions each of which branches.
func TestLongMake(t *testing.T) {
	f := function(append(repeat(op(api.OpDiv), api.MaxCode-1), op(api.OpReturn))...)
	last := api.MaxCode - 1
	left := regions.Make(f, nil)
	joined := regions.Make(handled(f, api.Handler{From: 0, To: last, At: last}), nil)
	if len(left) != last || len(joined) != last {
		t.Fatal("there are", len(left), "and", len(joined))
	}
	for at := range last {
		if want := (api.Region{At: at, Join: none, Places: span(at+1, last)}); !same(left[at], want) {
			t.Fatalf("the region of %d: to %d, %d places", at, left[at].Join, len(left[at].Places))
		}
		if want := (api.Region{At: at, Join: last, Places: span(at+1, last-1)}); !same(joined[at], want) {
			t.Fatalf("the region of %d: to %d, %d places", at, joined[at].Join, len(joined[at].Places))
		}
	}
}
