package flow_test

import (
	"math"
	"reflect"
	"slices"
	"testing"

	"palisade/api"
	"palisade/flow"
)

// told is what all calls tell of one function.
type told struct {
	Handlers []int
	Truths   [][3]bool
	Ways     [][]int
	Reached  [][]int
}

// callAll makes all calls, at all places and at such as are none.
func callAll(f api.Func, raises []bool, from []int) told {
	var all told
	n := len(f.Code)
	for _, at := range append(span(-2, min(n+1, 20)), math.MinInt, n-1, n, n+1, math.MaxInt) {
		all.Handlers = append(all.Handlers, flow.Handler(f, at))
		all.Truths = append(all.Truths, [3]bool{flow.Raises(f, raises, at), flow.Leaves(f, raises, at), flow.Branches(f, raises, at)})
		all.Ways = append(all.Ways, flow.Ways(f, raises, at))
		all.Reached = append(all.Reached, flow.Reach(f, raises, from, at), flow.Reach(f, raises, []int{at}, 3), flow.Reach(f, raises, []int{at}, none))
	}
	return all
}

type sample struct {
	F      api.Func
	Raises []bool
	From   []int
}

func samples() []sample {
	full := fork()
	full.Code[2] = op(api.OpCall)
	full.Handlers = append(full.Handlers, api.Handler{From: 0, To: 3, At: 9}, api.Handler{From: 0, To: 11, At: 0})
	full.Caps, full.Points, full.Regions = make([]api.Type, 2), make([]api.Point, 2), []api.Region{{At: 1, Join: 5, Places: []int{2, 3, 4}}}
	odd := handled(function(op(0, 5), op(28, -1), op(api.OpUnless, -7), op(api.OpJump, 99), op(api.OpDiv)), api.Handler{From: 9, To: -9, At: 99}, api.Handler{From: -9, To: 9, At: 1})
	return []sample{
		{},
		{F: long(1)},
		{F: long(4), Raises: always(2), From: []int{3, 1}},
		{F: full, Raises: []bool{2: true}, From: []int{9, 2, -1, 2}},
		{F: odd, Raises: always(9), From: []int{4, 0, 77}},
	}
}

// TestNothingPanics (R1): functions of all sorts, RAISES and places, each thing in them changed.
func TestNothingPanics(t *testing.T) {
	for _, s := range samples() {
		s = roomy(s)
		each(&s, func() {
			got := callAll(s.F, s.Raises, s.From)
			if len(s.From) > 0 && !slices.Equal(got.Reached[0], refReach(s.F, s.Raises, s.From, -2)) {
				t.Fatalf("%v is reached: %+v", got.Reached[0], s)
			}
		})
	}
	for _, n := range []int{math.MinInt, math.MinInt32, -1, 0, 1, 2, 28, math.MaxInt32, math.MaxInt} {
		for _, which := range numbers() {
			for _, other := range []int{math.MinInt, -1, 0, 1, math.MaxInt} {
				f := handled(function(op(which, n), op(n, other), op(which, other)), api.Handler{From: n, To: other, At: n}, api.Handler{From: other, To: n, At: other})
				for _, raises := range [][]bool{nil, always(1), always(9)} {
					callAll(f, raises, []int{n, other})
				}
			}
		}
	}
}

// TestUnasked (P15.1, R1): what else stands in a function means nothing here, nor how far it goes.
func TestUnasked(t *testing.T) {
	ring := api.Type{Kind: api.Ref, Parts: make([]api.Type, 1)}
	ring.Parts[0] = ring
	for k, s := range samples() {
		want := callAll(s.F, s.Raises, s.From)
		f := api.Func{
			Param: ring, Result: ring, Caps: repeat(ring, 300), Heap: 99, Exc: -99, Slots: -5, Handlers: s.F.Handlers,
			Points:  repeat(api.Point{Stack: repeat(ring, 30), Slots: repeat(ring, 3), Env: 77}, 9),
			Regions: repeat(api.Region{At: -4, Join: -4, Places: []int{9, 9, -9}}, 5),
		}
		for _, i := range s.F.Code {
			i.T = ring
			f.Code = append(f.Code, i)
		}
		if got := callAll(f, s.Raises, s.From); !reflect.DeepEqual(got, want) {
			t.Errorf("sample %d is told otherwise", k)
		}
	}
}

// TestArgumentsAreLeft (R5): what is handed in is left as it is, its spare room too, and answers don't hang on that room.
func TestArgumentsAreLeft(t *testing.T) {
	for k, s := range samples() {
		want := callAll(s.F, s.Raises, s.From)
		a := roomy(s)
		before := whole(a)
		got := callAll(a.F, a.Raises, a.From)
		if !reflect.DeepEqual(whole(a), before) {
			t.Errorf("sample %d was changed", k)
		}
		if !reflect.DeepEqual(got, want) {
			t.Errorf("sample %d: an answer hangs on spare room", k)
		}
	}
}

// TestNewMemory (R5): what is told shares no memory with what was handed in, nor with what else is told.
func TestNewMemory(t *testing.T) {
	for k, s := range samples() {
		a := roomy(s)
		first, second := callAll(a.F, a.Raises, a.From), callAll(a.F, a.Raises, a.From)
		if !apart(a, first.Ways, first.Reached, second.Ways, second.Reached) {
			t.Errorf("sample %d: memory is shared", k)
		}
		// Whoever changes an answer changes no later one.
		for _, lists := range [][][]int{first.Ways, first.Reached} {
			for _, list := range lists {
				for i := range list {
					list[i] = 77
				}
			}
		}
		if !reflect.DeepEqual(callAll(a.F, a.Raises, a.From), second) {
			t.Errorf("sample %d: an answer hangs on another one", k)
		}
	}
}

// TestEmptyLists (R5): lists without elements may be nil or empty.
func TestEmptyLists(t *testing.T) {
	empty := api.Func{Code: []api.Ins{}, Handlers: []api.Handler{}}
	if !reflect.DeepEqual(callAll(empty, []bool{}, []int{}), callAll(api.Func{}, nil, nil)) {
		t.Error("without code")
	}
	f := fork()
	f.Handlers = nil
	want := callAll(f, nil, nil)
	f.Handlers = []api.Handler{}
	if !reflect.DeepEqual(callAll(f, []bool{}, []int{}), want) {
		t.Error("without handlers")
	}
}

// TestAgain (R7): a call doesn't hang on those ahead of it.
func TestAgain(t *testing.T) {
	var first []told
	for round := range 3 {
		for k, s := range samples() {
			got := callAll(s.F, s.Raises, s.From)
			if round == 0 {
				first = append(first, got)
			} else if !reflect.DeepEqual(got, first[k]) {
				t.Errorf("sample %d is told otherwise", k)
			}
		}
	}
}
