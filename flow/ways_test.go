package flow_test

import (
	"fmt"
	"math"
	"slices"
	"testing"

	"palisade/api"
)

// TestExamples (P15.1): those of the chapter.
func TestExamples(t *testing.T) {
	f := handled(function(op(api.OpUnless, 3), op(api.OpDiv), op(api.OpInt), op(api.OpInt), op(api.OpReturn)), api.Handler{From: 1, To: 2, At: 4})
	goes(t, "OpUnless", f, nil, 0, 1, 3)
	goes(t, "OpDiv", f, nil, 1, 2, 4)
	goes(t, "OpReturn", f, nil, 4)
	says(t, "OpUnless", f, nil, 0, false, false, true)
	says(t, "OpDiv", f, nil, 1, true, false, true)
	says(t, "OpReturn", f, nil, 4, false, true, false)
}

// lists are RAISES that say of the place 2 that it may raise, or not.
var lists = []struct {
	raises []bool
	may    bool
}{
	{nil, false},
	{[]bool{}, false},
	{[]bool{true}, false},
	{[]bool{true, true}, false},
	{[]bool{true, true, true}, true},
	{[]bool{false, false, true}, true},
	{[]bool{true, true, false}, false},
	{[]bool{true, true, false, true, true, true, true, true}, false},
	{[]bool{false, false, true, false, false, false, false, false}, true},
	{slices.Repeat([]bool{true}, 100), true},
}

// TestEachOp (P15.1, P15.3): each Op, 0, and numbers that are no Op, with and without a handler, with each RAISES.
func TestEachOp(t *testing.T) {
	for _, which := range numbers() {
		for k, list := range lists {
			raises := slices.Contains([]int{api.OpDiv, api.OpMod, api.OpRaise}, which) || which == api.OpCall && list.may
			var ways []int
			if !slices.Contains([]int{0, api.OpJump, api.OpRaise, api.OpReturn}, which) {
				ways = append(ways, 3)
			}
			if which == api.OpJump || which == api.OpUnless {
				ways = append(ways, 4)
			}
			branches := which == api.OpUnless || raises && which != api.OpRaise
			name := fmt.Sprint("Op ", which, ", RAISES ", k)
			f := putting(7, 2, op(which, 4))
			goes(t, name, f, list.raises, 2, ways...)
			says(t, name, f, list.raises, 2, raises, raises || which == api.OpReturn, branches)
			g := handled(f, api.Handler{From: 0, To: 7, At: 5})
			if raises {
				ways = append(ways, 5)
			}
			goes(t, name+", handled", g, list.raises, 2, ways...)
			says(t, name+", handled", g, list.raises, 2, raises, which == api.OpReturn, branches)
		}
	}
}

// TestNumberOfOthers (P15.1): just OpJump and OpUnless go where their number says.
func TestNumberOfOthers(t *testing.T) {
	for _, which := range numbers() {
		if which == api.OpJump || which == api.OpUnless {
			continue
		}
		for _, a := range []int{math.MinInt, -1, 0, 1, 2, 3, 4, 5, math.MaxInt} {
			want := []int{3}
			if slices.Contains([]int{0, api.OpRaise, api.OpReturn}, which) {
				want = nil
			}
			goes(t, fmt.Sprint("Op ", which, " of ", a), putting(5, 2, op(which, a)), always(5), 2, want...)
		}
	}
}

// TestLastPlace (P15.1): behind the last place there is none to go on at.
func TestLastPlace(t *testing.T) {
	for _, which := range numbers() {
		for _, n := range []int{1, 2, 5, 2000} {
			f := putting(n, n-1, op(which, n))
			goes(t, fmt.Sprint("Op ", which, ", the last of ", n), f, always(n), n-1)
			var ways []int
			if slices.Contains(mayRaise, which) {
				ways = []int{0}
			}
			goes(t, fmt.Sprint("Op ", which, ", the last of ", n, ", handled"), handled(f, api.Handler{From: 0, To: n, At: 0}), always(n), n-1, ways...)
		}
	}
}

// TestJumps (P15.1): to themselves, back, to the next place, to the last one, and to such as are none.
func TestJumps(t *testing.T) {
	for _, n := range []int{1, 2, 3, 6, 2000} {
		for _, at := range []int{0, n / 2, n - 2, n - 1} {
			if at < 0 {
				continue
			}
			for _, a := range []int{math.MinInt64, math.MinInt32, -1 << 32, -2, -1, 0, at - 1, at, at + 1, at + 2, n - 2, n - 1, n, n + 1, 65536, math.MaxInt32, 1 << 32, 1<<32 + 1, math.MaxInt64} {
				name := fmt.Sprint("from ", at, " to ", a, " of ", n)
				var jump, unless []int
				if a >= 0 && a < n {
					jump = []int{a}
				}
				unless = slices.Clone(jump)
				if at+1 < n && a != at+1 {
					unless = append(unless, at+1)
				}
				slices.Sort(unless)
				goes(t, "OpJump "+name, putting(n, at, op(api.OpJump, a)), nil, at, jump...)
				goes(t, "OpUnless "+name, putting(n, at, op(api.OpUnless, a)), nil, at, unless...)
				says(t, "OpJump "+name, putting(n, at, op(api.OpJump, a)), always(n), at, false, false, false)
				says(t, "OpUnless "+name, putting(n, at, op(api.OpUnless, a)), always(n), at, false, false, true)
			}
		}
	}
}

// TestWaysOnce (P15.1): places that are come to in two ways stand there once, and all of them rise.
func TestWaysOnce(t *testing.T) {
	for _, which := range []int{api.OpDiv, api.OpMod, api.OpCall} {
		for to, want := range [][]int{{0, 3}, {1, 3}, {2, 3}, {3}, {3, 4}, {3, 5}} {
			f := handled(putting(6, 2, op(which, 1)), api.Handler{From: 2, To: 3, At: to})
			goes(t, fmt.Sprint("Op ", which, ", a handler at ", to), f, always(6), 2, want...)
		}
	}
	for to := range 6 {
		f := handled(putting(6, 2, op(api.OpRaise, 1)), api.Handler{From: 2, To: 3, At: to})
		goes(t, fmt.Sprint("OpRaise, a handler at ", to), f, nil, 2, to)
	}
	goes(t, "OpUnless to the next place", putting(6, 2, op(api.OpUnless, 3)), nil, 2, 3)
	goes(t, "OpUnless back", putting(6, 2, op(api.OpUnless, 0)), nil, 2, 0, 3)
	// What can't raise has no way to its handler.
	goes(t, "OpUnless with a handler", handled(putting(6, 2, op(api.OpUnless, 4)), api.Handler{From: 2, To: 3, At: 5}), always(6), 2, 3, 4)
	goes(t, "OpJump with a handler", handled(putting(6, 2, op(api.OpJump, 4)), api.Handler{From: 2, To: 3, At: 5}), always(6), 2, 4)
}

// TestNoPlace (P15.1, P15.3): of a number that is no place there is nothing to tell.
func TestNoPlace(t *testing.T) {
	for _, which := range numbers() {
		for _, n := range []int{0, 1, 2, 5} {
			f := handled(function(repeat(op(which), n)...), api.Handler{From: math.MinInt, To: math.MaxInt, At: 0})
			for _, at := range []int{math.MinInt, math.MinInt32, -1 << 32, -2, -1, n, n + 1, math.MaxInt32, 1 << 32, math.MaxInt} {
				for _, g := range []api.Func{f, function(f.Code...)} {
					name := fmt.Sprint("Op ", which, " ", n, " times")
					goes(t, name, g, always(100), at)
					says(t, name, g, always(100), at, false, false, false)
				}
			}
		}
	}
}

// TestOtherPlaces (P15.1, P15.3): what is told of a place hangs on its own instruction, RAISES and handlers alone.
func TestOtherPlaces(t *testing.T) {
	for _, which := range numbers() {
		f := function(append(repeat(op(which, 1), 2), op(api.OpCall), op(which, 1), op(which, 1))...)
		name := fmt.Sprint("among Ops ", which)
		goes(t, name, f, []bool{true, true, false, true, true}, 2, 3)
		says(t, name, f, []bool{true, true, false, true, true}, 2, false, false, false)
		g := handled(f, api.Handler{From: 0, To: 2, At: 1}, api.Handler{From: 3, To: 5, At: 1})
		goes(t, name, g, []bool{2: true}, 2, 3)
		says(t, name, g, []bool{2: true}, 2, true, true, true)
	}
}
