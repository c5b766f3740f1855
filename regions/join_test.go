package regions_test

import (
	"fmt"
	"math"
	"testing"

	"palisade/api"
)

// TestExamples (P16.1): those of the chapter, with what the dots may stand for.
func TestExamples(t *testing.T) {
	f := fork()
	for n := len(f.Code); n >= 5; n-- { // also without the OpReturn
		f.Code = f.Code[:n]
		joins(t, "the chapter's", f, nil, 0, 4, 1, 2, 3)
		g := put(f, 2, op(api.OpRaise))
		joins(t, "with an OpRaise", g, nil, 0, none, span(1, n-1)...)
		joins(t, "with an OpRaise that has a handler", handled(g, api.Handler{From: 2, To: 3, At: 4}), nil, 0, 4, 1, 2, 3)
	}
}

// TestOneWay (P16.1): where there is but one way, its place is the join.
func TestOneWay(t *testing.T) {
	for which := 1; which <= api.OpReturn; which++ {
		f := put(long(6), 2, op(which, 4))
		switch which {
		case api.OpJump:
			joins(t, "OpJump", f, nil, 2, 4)
		case api.OpUnless:
			joins(t, "OpUnless to the next place", put(f, 2, op(which, 3)), nil, 2, 3)
		case api.OpRaise:
			joins(t, "OpRaise with a handler", handled(f, api.Handler{From: 2, To: 3, At: 5}), nil, 2, 5)
		case api.OpDiv, api.OpMod:
			joins(t, "with a handler at the next place", handled(f, api.Handler{From: 2, To: 3, At: 3}), nil, 2, 3)
		case api.OpReturn:
		default:
			joins(t, fmt.Sprint("Op ", which), f, nil, 2, 3)
			joins(t, fmt.Sprint("Op ", which, " with a handler"), handled(f, api.Handler{From: 0, To: 4, At: 5}), nil, 2, 3)
		}
	}
}

// TestTwoWays (P16.1): they meet at once, later, or never.
func TestTwoWays(t *testing.T) {
	joins(t, "at once, past nothing", put(long(6), 1, op(api.OpUnless, 2)), nil, 1, 2)
	joins(t, "at once, past one", put(long(6), 1, op(api.OpUnless, 3)), nil, 1, 3, 2)
	joins(t, "later, past some", put(long(9), 1, op(api.OpUnless, 6)), nil, 1, 6, 2, 3, 4, 5)
	joins(t, "at the last place", put(long(6), 0, op(api.OpUnless, 5)), nil, 0, 5, 1, 2, 3, 4)
	// The greater way is the one that jumps on.
	f := function(op(api.OpUnless, 2), op(api.OpJump, 5), op(api.OpJump, 4), op(api.OpInt), op(api.OpJump, 6), op(api.OpInt), op(api.OpReturn))
	joins(t, "each in jumps of its own", f, nil, 0, 6, 1, 2, 4, 5)
	joins(t, "never", function(op(api.OpUnless, 2), op(api.OpReturn), op(api.OpInt), op(api.OpReturn)), nil, 0, none, 1, 2, 3)
	joins(t, "never, both without an OpReturn", function(op(api.OpUnless, 2), op(0), op(api.OpInt), op(0)), nil, 0, none, 1, 2, 3)
	// They meet where a third has come, too.
	g := function(op(api.OpUnless, 4), op(api.OpUnless, 3), op(api.OpJump, 5), op(api.OpJump, 5), op(api.OpInt), op(api.OpReturn))
	joins(t, "three ways", g, nil, 0, 5, 1, 2, 3, 4)
	joins(t, "two of the three", g, nil, 1, 5, 2, 3)
}

// TestNested (P16.1): branches one within another, and one behind.
func TestNested(t *testing.T) {
	f := nested()
	joins(t, "the outer one", f, nil, 0, 8, span(1, 7)...)
	joins(t, "ahead of the inner one", f, nil, 1, 2)
	joins(t, "the inner one", f, nil, 2, 6, 3, 4, 5)
	joins(t, "within it", f, nil, 3, 4)
	joins(t, "within it, a jump", f, nil, 4, 6)
	joins(t, "where it joins", f, nil, 6, 8)
	joins(t, "the one behind", f, nil, 9, 11, 10)
	// Whatever leaves within the inner one, leaves within the outer one.
	g := put(f, 3, op(api.OpRaise))
	joins(t, "the inner one leaves", g, nil, 2, none, 3, 5, 6, 8, 9, 10, 11)
	joins(t, "so does the outer one", g, nil, 0, none, 1, 2, 3, 5, 6, 7, 8, 9, 10, 11)
	joins(t, "not the one behind", g, nil, 9, 11, 10)
	h := put(f, 3, op(api.OpDiv))
	joins(t, "a division in the inner one", h, nil, 2, none, 3, 4, 5, 6, 8, 9, 10, 11)
	joins(t, "and what is past it", h, nil, 4, 6)
}

// TestLeavesAhead (P16.1): where one way leaves ahead of where they would meet there is no join.
func TestLeavesAhead(t *testing.T) {
	for _, which := range []int{api.OpReturn, api.OpRaise, api.OpDiv, api.OpMod, api.OpCall} {
		name := fmt.Sprint("Op ", which)
		stays := which == api.OpDiv || which == api.OpMod || which == api.OpCall
		for at := 1; at <= 3; at++ {
			places := span(1, 5)
			if at == 1 && !stays {
				places = []int{1, 3, 4, 5}
			}
			joins(t, fmt.Sprint(name, " at ", at), put(fork(), at, op(which)), always(6), 0, none, places...)
		}
		// At the join itself it isn't ahead of it.
		joins(t, name+" at the join", put(fork(), 4, op(which)), always(6), 0, 4, 1, 2, 3)
	}
	// A way that leaves at once.
	f := function(op(api.OpUnless, 2), op(api.OpReturn), op(api.OpReturn))
	joins(t, "both leave", f, nil, 0, none, 1, 2)
}

// TestItselfLeaves (P16.1): a place that leaves has no join, also if it goes on.
func TestItselfLeaves(t *testing.T) {
	for _, which := range []int{api.OpDiv, api.OpMod, api.OpCall} {
		f := put(long(5), 1, op(which))
		joins(t, fmt.Sprint("Op ", which), f, always(5), 1, none, 2, 3, 4)
		joins(t, fmt.Sprint("ahead of Op ", which), f, always(5), 0, 1)
		joins(t, fmt.Sprint("Op ", which, ", a handler elsewhere"), handled(f, api.Handler{From: 2, To: 3, At: 4}), always(5), 1, none, 2, 3, 4)
		joins(t, fmt.Sprint("Op ", which, ", a handler at None"), handled(f, api.Handler{From: 0, To: 5, At: none}, api.Handler{From: 0, To: 3, At: 4}), always(5), 1, none, 2, 3, 4)
	}
	for _, which := range []int{api.OpRaise, api.OpReturn} {
		f := put(long(5), 1, op(which))
		joins(t, fmt.Sprint("Op ", which), f, nil, 1, none)
		joins(t, fmt.Sprint("ahead of Op ", which), f, nil, 0, 1)
	}
}

// TestHandlerWay (P16.1): what raises has its handler as one of the ways.
func TestHandlerWay(t *testing.T) {
	f := caught()
	joins(t, "a division", f, nil, 1, 5, 2, 3, 4)
	joins(t, "ahead of it", f, nil, 0, 1)
	joins(t, "its handler", f, nil, 4, 5)
	// Two that raise, with handlers one within the other.
	g := function(op(api.OpDiv), op(api.OpMod), op(api.OpJump, 4), op(api.OpStore), op(api.OpJump, 6), op(api.OpStore), op(api.OpReturn))
	g = handled(g, api.Handler{From: 1, To: 2, At: 3}, api.Handler{From: 0, To: 3, At: 5})
	joins(t, "the inner handler", g, nil, 1, 4, 2, 3)
	joins(t, "the outer handler", g, nil, 0, 6, 1, 2, 3, 4, 5)
	// What the handler itself raises leaves.
	h := put(caught(), 4, op(api.OpRaise))
	joins(t, "a handler that raises", h, nil, 1, none, span(2, 6)...)
	// An OpRaise and a division that have one handler.
	i := handled(function(op(api.OpDiv), op(api.OpRaise), op(api.OpStore), op(api.OpReturn)), api.Handler{From: 0, To: 2, At: 2})
	joins(t, "a division and an OpRaise", i, nil, 0, 2, 1)
	joins(t, "the OpRaise", i, nil, 1, 2)
	// A handler whose At is no place leads nowhere, but nothing leaves.
	joins(t, "a handler to no place", handled(put(long(4), 1, op(api.OpDiv)), api.Handler{From: 0, To: 4, At: 4}), nil, 1, 2)
}

// TestRaises (P16.1): RAISES makes a call branch, or leave.
func TestRaises(t *testing.T) {
	f := handled(put(long(6), 1, op(api.OpCall)), api.Handler{From: 0, To: 3, At: 4})
	for _, raises := range [][]bool{nil, {true}, {true, false, true, true, true, true}} {
		joins(t, "a call that doesn't raise", f, raises, 1, 2)
		joins(t, "nor leave", handled(f), raises, 1, 2)
		joins(t, "nor what is ahead of it", put(f, 0, op(api.OpUnless, 3)), raises, 0, 3, 1, 2)
	}
	for _, raises := range [][]bool{{false, true}, {true, true, true, true, true, true, true, true}} {
		joins(t, "a call that raises", f, raises, 1, 4, 2, 3)
		joins(t, "and leaves", handled(f), raises, 1, none, 2, 3, 4, 5)
		joins(t, "what is ahead of it", put(f, 0, op(api.OpUnless, 3)), raises, 0, 4, 1, 2, 3)
		joins(t, "what is ahead, if it leaves", handled(put(f, 0, op(api.OpUnless, 3))), raises, 0, none, span(1, 5)...)
	}
}

// TestLastPlace (P16.1): from the last place nothing goes on.
func TestLastPlace(t *testing.T) {
	for which := range api.OpReturn + 2 {
		for _, n := range []int{1, 2, 5, api.MaxCode} {
			f := put(long(n), n-1, op(which, n))
			joins(t, fmt.Sprint("Op ", which, ", the last of ", n), f, always(n), n-1, none)
			if n > 1 {
				joins(t, fmt.Sprint("ahead of Op ", which, ", the last of ", n), f, always(n), n-2, n-1)
			}
		}
	}
}

// TestNoPlace (P16.1): of a number that is no place there is no join, and the zero region.
func TestNoPlace(t *testing.T) {
	for _, f := range []api.Func{{}, long(1), fork(), nested(), caught()} {
		n := len(f.Code)
		for _, at := range []int{math.MinInt, math.MinInt32, -2, -1, n, n + 1, api.MaxCode, 1 << 32, math.MaxInt} {
			asksNoPlace(t, f, at)
		}
	}
}

// TestIdleHandlers (P16.1): of several handlers the first one that holds a place counts, however many there are that hold none.
func TestIdleHandlers(t *testing.T) {
	f := caught()
	idle := []api.Handler{{From: 3, To: 3, At: 6}, {From: 2, To: 1, At: 0}, {From: 3, To: 9, At: 99}, {From: -5, To: 1, At: 5}, {From: math.MaxInt, To: math.MinInt, At: 0}}
	f.Handlers = append(idle, api.Handler{From: math.MinInt, To: 2, At: 4}, api.Handler{From: 0, To: 3, At: 5})
	joins(t, "behind such as don't hold it", f, nil, 1, 5, 2, 3, 4)
	f.Handlers = append([]api.Handler{{From: 1, To: 2, At: 5}}, f.Handlers...)
	joins(t, "behind one that does", f, nil, 1, 5, 2, 3)
	f.Handlers = append([]api.Handler{{From: 0, To: 2, At: none}}, f.Handlers...)
	joins(t, "behind None", f, nil, 1, none, 2, 3, 5, 6)
	many := append(repeat(api.Handler{From: 2, To: 2, At: 3}, 100000), caught().Handlers...)
	joins(t, "behind many", handled(caught(), many...), nil, 1, 5, 2, 3, 4)
}

// TestLongFunctions (P16.1): of MaxCode instructions.
func TestLongFunctions(t *testing.T) {
	f := long(api.MaxCode)
	for at := range api.MaxCode / 2 {
		f.Code[at] = op(api.OpUnless, api.MaxCode-1-at)
	}
	last := api.MaxCode - 1
	joins(t, "the outermost", f, nil, 0, last, span(1, last-1)...)
	joins(t, "the next one", f, nil, 1, last-1, span(2, last-2)...)
	joins(t, "the innermost", f, nil, api.MaxCode/2-1, api.MaxCode/2)
	f.Code[api.MaxCode/2] = op(api.OpDiv)
	joins(t, "around a division", f, nil, 3, none, span(4, last)...)
	joins(t, "around a division that has a handler", handled(f, api.Handler{From: 0, To: last, At: last}), nil, 3, last, span(4, last-1)...)
}
