package flow_test

import (
	"fmt"
	"math"
	"slices"
	"testing"

	"palisade/api"
	"palisade/flow"
)

// fork is an if whose parts join at 5, a division with a handler at 7, and a part behind that nothing comes to.
func fork() api.Func {
	return handled(function(
		op(api.OpLoad), op(api.OpUnless, 4), op(api.OpInt, 1), op(api.OpJump, 5), op(api.OpInt, 2),
		op(api.OpDiv), op(api.OpReturn), op(api.OpPop), op(api.OpRaise), op(api.OpPop), op(api.OpReturn),
	), api.Handler{From: 5, To: 6, At: 7})
}

// TestReach (P15.2): an ordinary function, from each place.
func TestReach(t *testing.T) {
	f := fork()
	for at, want := range [][]int{
		{0, 1, 2, 3, 4, 5, 6, 7, 8}, {1, 2, 3, 4, 5, 6, 7, 8}, {2, 3, 5, 6, 7, 8}, {3, 5, 6, 7, 8}, {4, 5, 6, 7, 8},
		{5, 6, 7, 8}, {6}, {7, 8}, {8}, {9, 10}, {10},
	} {
		reaches(t, "alone", f, nil, []int{at}, none, want...)
	}
	reaches(t, "up to the join", f, nil, []int{2, 4}, 5, 2, 3, 4)
	reaches(t, "past the handler", f, nil, []int{0}, 7, 0, 1, 2, 3, 4, 5, 6)
	reaches(t, "past one part", f, nil, []int{0}, 2, 0, 1, 4, 5, 6, 7, 8)
	reaches(t, "two that have nothing to do with one another", f, nil, []int{9, 3}, none, 3, 5, 6, 7, 8, 9, 10)
}

// TestReachByRaises (P15.2): by what a call raises it is come to its handler just if RAISES says so.
func TestReachByRaises(t *testing.T) {
	f := handled(function(op(api.OpCall), op(api.OpReturn), op(api.OpPop), op(api.OpReturn)), api.Handler{From: 0, To: 1, At: 2})
	reaches(t, "no RAISES", f, nil, []int{0}, none, 0, 1)
	reaches(t, "RAISES", f, []bool{true}, []int{0}, none, 0, 1, 2, 3)
	reaches(t, "RAISES of others", f, []bool{false, true, true, true}, []int{0}, none, 0, 1)
	f.Handlers = append([]api.Handler{{From: 0, To: 1, At: none}}, f.Handlers...)
	reaches(t, "a first handler of None", f, []bool{true}, []int{0}, none, 0, 1)
	f.Handlers[0].At = 4
	reaches(t, "a first handler of nowhere", f, []bool{true}, []int{0}, none, 0, 1)
}

// TestReachFrom (P15.2): no places, numbers that are none, one twice, and such as don't rise.
func TestReachFrom(t *testing.T) {
	f := fork()
	reaches(t, "nil", f, nil, nil, none)
	reaches(t, "no places", f, nil, []int{}, none)
	reaches(t, "only such as are none", f, nil, []int{-1, 11, math.MinInt, math.MaxInt, math.MinInt32, math.MaxInt32, 1 << 32, 1<<32 + 1, -1 << 32}, none)
	reaches(t, "such as are none beside one", f, nil, []int{-1, 11, 6, 12, -2}, none, 6)
	reaches(t, "one twice", f, nil, []int{6, 6, 10, 6, 10}, none, 6, 10)
	reaches(t, "falling", f, nil, []int{10, 8, 6}, none, 6, 8, 10)
	reaches(t, "one that another one comes to", f, nil, []int{8, 5, 7, 5}, none, 5, 6, 7, 8)
	reaches(t, "all", f, nil, span(-3, 20), none, span(0, 10)...)
}

// TestReachStop (P15.2): stop is neither told nor gone on from; one that is no place stops nothing.
func TestReachStop(t *testing.T) {
	f := fork()
	reaches(t, "stop alone", f, nil, []int{5}, 5)
	reaches(t, "stop twice", f, nil, []int{5, 5}, 5)
	reaches(t, "stop among others", f, nil, []int{6, 5, 9}, 5, 6, 9, 10)
	reaches(t, "stop first, behind another", f, nil, []int{4, 5}, 5, 4)
	reaches(t, "what stop comes to may be come to otherwise", f, nil, []int{5, 7}, 5, 7, 8)
	reaches(t, "a stop that isn't come to", f, nil, []int{6, 9}, 0, 6, 9, 10)
	reaches(t, "a stop ahead", f, nil, []int{4}, 3, 4, 5, 6, 7, 8)
	reaches(t, "the last place", f, nil, []int{9}, 10, 9)
	for _, stop := range []int{math.MinInt, math.MinInt32, -1 << 32, -2, none, 11, 12, math.MaxInt32, 1 << 32, 1<<32 + 5, math.MaxInt} {
		reaches(t, "a stop that is no place", f, nil, []int{0}, stop, span(0, 8)...)
		reaches(t, "and is among those of from", f, nil, []int{4, stop}, stop, 4, 5, 6, 7, 8)
	}
}

// TestReachRounds (P15.2): code with ways back, and rounds.
func TestReachRounds(t *testing.T) {
	itself := function(op(api.OpJump, 0), op(api.OpReturn))
	reaches(t, "a jump to itself", itself, nil, []int{0}, none, 0)
	reaches(t, "and stopped there", itself, nil, []int{0}, 0)
	back := function(op(api.OpInt), op(api.OpUnless, 4), op(api.OpPop), op(api.OpJump, 0), op(api.OpReturn), op(api.OpJump, 2))
	for _, at := range []int{0, 1, 2, 3} {
		reaches(t, "a round", back, nil, []int{at}, none, 0, 1, 2, 3, 4)
	}
	reaches(t, "from behind a round", back, nil, []int{4}, none, 4)
	reaches(t, "into a round", back, nil, []int{5}, none, 0, 1, 2, 3, 4, 5)
	reaches(t, "a round that is cut", back, nil, []int{2}, 0, 2, 3)
	reaches(t, "a round that is cut elsewhere", back, nil, []int{2}, 1, 0, 2, 3)
	two := function(op(api.OpJump, 1), op(api.OpUnless, 0), op(api.OpUnless, 2), op(api.OpUnless, 1))
	reaches(t, "rounds in rounds", two, nil, []int{2}, none, 0, 1, 2, 3)
	reaches(t, "rounds in rounds, from the last place", two, nil, []int{3}, none, 0, 1, 2, 3)
	caught := handled(function(op(api.OpInt), op(api.OpRaise), op(api.OpReturn)), api.Handler{From: 0, To: 3, At: 0})
	reaches(t, "a handler that goes back", caught, nil, []int{1}, none, 0, 1)
}

// TestReachOfNothing (P15.2): functions without code, and places that are no Op.
func TestReachOfNothing(t *testing.T) {
	for _, f := range []api.Func{{}, {Code: []api.Ins{}}, {Handlers: []api.Handler{{From: math.MinInt, To: math.MaxInt, At: 0}}}} {
		reaches(t, "no code", f, always(3), []int{-1, 0, 1}, 0)
		reaches(t, "no code", f, always(3), []int{0}, none)
	}
	reaches(t, "Op 0", function(make([]api.Ins, 3)...), nil, []int{0, 2}, none, 0, 2)
	reaches(t, "no Op", function(op(28), op(-1), op(0), op(0)), nil, []int{0}, none, 0, 1, 2)
}

// TestReachHandlers (P15.2): in all rows of two handlers each place goes to its first one.
func TestReachHandlers(t *testing.T) {
	const n = 5
	one := slices.Concat(repeat([]api.Ins{op(api.OpRaise)}, n)...)
	var some []api.Handler
	for from := -1; from <= n; from++ {
		for to := from - 1; to <= n+1; to++ {
			for _, at := range []int{none, 0, 3, n} {
				some = append(some, api.Handler{From: from, To: to, At: at})
			}
		}
	}
	for _, h := range some {
		for _, g := range some {
			f := handled(function(one...), h, g)
			for at := range n {
				if got, want := flow.Reach(f, nil, []int{at}, none), refReach(f, nil, []int{at}, none); !slices.Equal(got, want) {
					t.Fatalf("%v, %v: from %d: %v, not %v", h, g, at, got, want)
				}
			}
		}
	}
}

// TestReachFar (P15.2): great functions: a row, a row back, and one in which each place leads by a handler of its own.
func TestReachFar(t *testing.T) {
	for _, n := range []int{2000, 200_000} {
		row := long(n)
		if got := flow.Reach(row, nil, []int{1}, none); !slices.Equal(got, span(1, n-1)) {
			t.Error("a row")
		}
		if got := flow.Reach(row, nil, []int{n - 1, 1}, n-1); !slices.Equal(got, span(1, n-2)) {
			t.Error("a row that is stopped")
		}
		back, caught := function(make([]api.Ins, n)...), function(repeat(op(api.OpRaise), n)...)
		for at := range n {
			back.Code[at] = op(api.OpJump, at-1)
			caught.Handlers = append(caught.Handlers, api.Handler{From: at, To: at + 1, At: at - 2})
		}
		if got := flow.Reach(back, nil, []int{n - 1}, none); !slices.Equal(got, span(0, n-1)) {
			t.Error("a row back")
		}
		got := flow.Reach(caught, nil, []int{n - 1}, none)
		if len(got) != n/2 || got[0] != 1 || got[n/2-1] != n-1 {
			t.Error("a row of handlers")
		}
		// Every handler but the last one is of no use to any place.
		for at := range n - 1 {
			caught.Handlers[at] = api.Handler{From: n - 1, To: n, At: 0}
		}
		caught.Handlers[n-1] = api.Handler{From: 0, To: n, At: n - 1}
		if got := flow.Reach(caught, nil, []int{0}, none); !slices.Equal(got, []int{0, n - 1}) {
			t.Error("handlers that hold one place")
		}
		for at := range n - 1 {
			caught.Handlers[at] = api.Handler{From: 0, To: n, At: (at + 1) % n}
		}
		if got := flow.Reach(caught, nil, span(0, n-1), none); len(got) != n {
			t.Error("handlers that hold all places")
		}
	}
}

// TestReachEachStop (P15.2): each function of three places of some sorts, from each place, to each stop.
func TestReachEachStop(t *testing.T) {
	const n = 3
	sorts := []api.Ins{op(api.OpInt), op(api.OpReturn), op(api.OpCall), op(api.OpRaise)}
	for to := -1; to <= n; to++ {
		sorts = append(sorts, op(api.OpJump, to), op(api.OpUnless, to))
	}
	for number := range len(sorts) * len(sorts) * len(sorts) {
		first, second, third := number%len(sorts), number/len(sorts)%len(sorts), number/len(sorts)/len(sorts)
		f := handled(function(sorts[first], sorts[second], sorts[third]), api.Handler{From: 1, To: 3, At: number % n})
		for at := range n {
			for stop := -1; stop <= n; stop++ {
				raises := always(number % 4)
				if got, want := flow.Reach(f, raises, []int{at}, stop), refReach(f, raises, []int{at}, stop); !slices.Equal(got, want) {
					t.Fatal(fmt.Sprint("from ", at, ", stop ", stop, ": ", got, ", not ", want, ": ", f.Code))
				}
			}
		}
	}
}
