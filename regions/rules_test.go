package regions_test

import (
	"math"
	"reflect"
	"testing"

	"palisade/api"
	"palisade/regions"
)

// told is what all calls tell of one function.
type told struct {
	Joins []int
	Of    []api.Region
	Made  []api.Region
	Holds []int
}

// callAll makes all calls, at all places and at such as are none.
func callAll(f api.Func, raises []bool, r api.Region) told {
	var all told
	n := len(f.Code)
	for _, at := range append(span(-2, min(n+1, 20)), math.MinInt, n-1, n, math.MaxInt) {
		all.Joins = append(all.Joins, regions.Join(f, raises, at))
		all.Of = append(all.Of, regions.Of(f, raises, at))
	}
	all.Made = regions.Make(f, raises)
	all.Holds = append(all.Holds, regions.Holds(f, raises, r), regions.Holds(f, raises, regions.Of(f, raises, r.At)))
	return all
}

type sample struct {
	F      api.Func
	Raises []bool
	Region api.Region
}

func samples() []sample {
	full := nested()
	full.Code[1], full.Code[3] = op(api.OpDiv), op(api.OpCall)
	full.Handlers = []api.Handler{{From: 0, To: 3, At: 7}, {From: 2, To: 5, At: 5}}
	full.Caps, full.Points, full.Regions = make([]api.Type, 2), make([]api.Point, 2), []api.Region{{At: 1, Join: 5, Places: []int{2, 3, 4}}}
	odd := handled(function(op(0, 5), op(28, -1), op(api.OpUnless, -7), op(api.OpJump, 99), op(api.OpDiv)), api.Handler{From: 9, To: -9, At: 99}, api.Handler{From: -9, To: 9, At: 9})
	return []sample{
		{},
		{F: long(1), Region: api.Region{Join: none}},
		{F: fork(), Raises: always(2), Region: api.Region{Join: 4, Places: []int{1, 2, 3}}},
		{F: caught(), Raises: []bool{5: true}, Region: api.Region{At: 1, Join: 5, Places: []int{2, 3, 4}}},
		{F: full, Raises: []bool{3: true}, Region: api.Region{At: 2, Join: 6, Places: []int{3, 4, 5, 5, -1, 77}}},
		{F: odd, Raises: always(9), Region: api.Region{At: 4, Join: 77, Places: []int{4, 0}}},
		{F: put(fork(), 4, op(api.OpJump, 1)), Region: api.Region{At: 9, Join: 9, Places: []int{1, 2, 3}}},
	}
}

// TestNothingPanics (R1): functions of all sorts, RAISES, places and regions, each thing in them changed.
func TestNothingPanics(t *testing.T) {
	for _, s := range samples() {
		s = roomy(s)
		each(&s, func() {
			got := callAll(s.F, s.Raises, s.Region)
			if made := got.Holds[1]; refPlace(s.F, s.Region.At) && made != 0 {
				t.Fatalf("of what is made it tells %d: %+v", made, s)
			}
		})
	}
	for _, n := range []int{math.MinInt, math.MinInt32, -1, 0, 1, 2, 3, 28, math.MaxInt32, math.MaxInt} {
		for which := -1; which <= api.OpReturn+1; which++ {
			for _, other := range []int{math.MinInt, -1, 0, 1, 2, math.MaxInt} {
				f := handled(function(op(which, n), op(n, other), op(which, other)), api.Handler{From: n, To: other, At: n}, api.Handler{From: other, To: n, At: other})
				for _, raises := range [][]bool{nil, always(1), always(9)} {
					callAll(f, raises, api.Region{At: n, Join: other, Places: []int{other, n}})
					callAll(f, raises, api.Region{At: 1, Join: n, Places: []int{n, other, 2}})
				}
			}
		}
	}
}

// TestUnasked (P16.1, P16.2, R1): what else stands in a function means nothing here, nor how far it goes.
func TestUnasked(t *testing.T) {
	ring := api.Type{Kind: api.Ref, Parts: make([]api.Type, 1)}
	ring.Parts[0] = ring
	for k, s := range samples() {
		want := callAll(s.F, s.Raises, s.Region)
		f := api.Func{
			Param: ring, Result: ring, Caps: repeat(ring, 300), Heap: 99, Exc: -99, Slots: -5, Handlers: s.F.Handlers,
			Points:  repeat(api.Point{Stack: repeat(ring, 30), Slots: repeat(ring, 3), Env: 77}, 9),
			Regions: repeat(api.Region{At: -4, Join: -4, Places: []int{9, 9, -9}}, 5),
		}
		for _, i := range s.F.Code {
			i.T = ring
			f.Code = append(f.Code, i)
		}
		if got := callAll(f, s.Raises, s.Region); !reflect.DeepEqual(got, want) {
			t.Errorf("sample %d is told otherwise", k)
		}
	}
}

// TestNothingBeside (R3): where there is nothing to tell, nothing stands beside it.
func TestNothingBeside(t *testing.T) {
	s := samples()[6]
	for at := -1; at <= len(s.F.Code); at++ {
		if got := regions.Of(s.F, s.Raises, at); got.At != 0 || got.Join != 0 || len(got.Places) != 0 {
			t.Errorf("of %d there is %v", at, got)
		}
	}
	if got := regions.Of(fork(), nil, 6); got.At != 0 || got.Join != 0 || len(got.Places) != 0 {
		t.Errorf("of no place there is %v", got)
	}
}

// TestArgumentsAreLeft (R5): what is handed in is left as it is, its spare room too, and answers don't hang on that room.
func TestArgumentsAreLeft(t *testing.T) {
	for k, s := range samples() {
		want := callAll(s.F, s.Raises, s.Region)
		a := roomy(s)
		before := whole(a)
		got := callAll(a.F, a.Raises, a.Region)
		if !reflect.DeepEqual(whole(a), before) {
			t.Errorf("sample %d was changed", k)
		}
		if !reflect.DeepEqual(got, want) {
			t.Errorf("sample %d: an answer hangs on spare room", k)
		}
	}
}

// TestNewMemory (R5): what is told shares no memory with what was handed in, nor with what else is told.
func TestNewMemory(t *testing.T) {
	for k, s := range samples() {
		a := roomy(s)
		first, second := callAll(a.F, a.Raises, a.Region), callAll(a.F, a.Raises, a.Region)
		if !apart(a, first.Of, first.Made, second.Of, second.Made) {
			t.Errorf("sample %d: memory is shared", k)
		}
		// Whoever changes an answer changes no later one.
		for _, list := range [][]api.Region{first.Of, first.Made} {
			for _, r := range list {
				for i := range r.Places {
					r.Places[i] = 77
				}
			}
		}
		if !reflect.DeepEqual(callAll(a.F, a.Raises, a.Region), second) {
			t.Errorf("sample %d: an answer hangs on another one", k)
		}
	}
}

// TestEmptyLists (R5): lists without elements may be nil or empty.
func TestEmptyLists(t *testing.T) {
	empty := api.Func{Code: []api.Ins{}, Handlers: []api.Handler{}}
	if !reflect.DeepEqual(callAll(empty, []bool{}, api.Region{Places: []int{}}), callAll(api.Func{}, nil, api.Region{})) {
		t.Error("without code")
	}
	f := fork()
	want := callAll(f, nil, api.Region{At: 1, Join: 2})
	f.Handlers = []api.Handler{}
	if !reflect.DeepEqual(callAll(f, []bool{}, api.Region{At: 1, Join: 2, Places: []int{}}), want) {
		t.Error("without handlers")
	}
}

// TestAgain (R7): a call doesn't hang on those ahead of it.
func TestAgain(t *testing.T) {
	var first []told
	for round := range 3 {
		for k, s := range samples() {
			got := callAll(s.F, s.Raises, s.Region)
			if round == 0 {
				first = append(first, got)
			} else if !reflect.DeepEqual(got, first[k]) {
				t.Errorf("sample %d is told otherwise", k)
			}
		}
	}
}
