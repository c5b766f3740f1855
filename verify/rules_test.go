package verify_test

import (
	"math"
	"reflect"
	"testing"

	"palisade/api"
	"palisade/verify"
)

// certified has a point of each instruction, with these stacks and Envs, all with those slots.
func certified(f api.Func, slots []api.Type, stacks [][]api.Type, envs []int) api.Func {
	for at, stack := range stacks {
		f.Points = append(f.Points, api.Point{Stack: stack, Slots: slots, Env: envs[at]})
	}
	f.Slots = len(slots)
	return f
}

// catches is an accepted function that divides 1 by what it is given, and gives 0, if that raises.
func catches() api.Func {
	one := list(integer(lA))
	f := api.Func{
		Param: integer(lA), Result: integer(lA), Heap: lO, Exc: none,
		Code:     []api.Ins{op(api.OpInt, 1), op(api.OpLoad), op(api.OpDiv), op(api.OpJump, 6), op(api.OpPop), op(api.OpInt), op(api.OpReturn)},
		Handlers: []api.Handler{{From: 0, To: 3, At: 4}},
		Regions:  []api.Region{{At: 2, Join: 6, Places: []int{3, 4, 5}}},
	}
	stacks := [][]api.Type{nil, list(integer(lO)), list(integer(lO), integer(lA)), one, one, nil, one}
	return certified(f, list(integer(lA)), stacks, []int{lO, lO, lO, lA, lA, lA, lO})
}

// calling has each Op that fork, capturing and catches have not; it is the last function of full.
func calling() api.Func {
	cell, made := ref(lO, integer(lAB)), ref(lO, integer(lA))
	f := api.Func{
		Param: boolean(lA), Result: integer(lAB), Caps: list(cell), Heap: lO, Exc: lB,
		Code: []api.Ins{
			op(api.OpClose, 0), op(api.OpLoad), op(api.OpCall), op(api.OpStore, 2), op(api.OpLoad, 1), op(api.OpLoad, 2), op(api.OpSet), // 0 to 6
			op(api.OpLoad, 1), op(api.OpGet), op(api.OpOut, lAB), op(api.OpLoad, 2), newOf(integer(lA)), op(api.OpBool, 1), op(api.OpNot), op(api.OpPair), // 7 to 14
			op(api.OpFirst), op(api.OpGet), op(api.OpSelf), op(api.OpLoad), op(api.OpCall), op(api.OpAdd), op(api.OpReturn), // 15 to 21
		},
		Regions: []api.Region{{At: 19, Join: none, Places: []int{20, 21}}},
	}
	forks, own := fun(lO, boolean(lA), integer(lA), lO, none), fun(lO, boolean(lA), integer(lAB), lO, lB)
	stacks := [][]api.Type{
		nil, list(forks), list(forks, boolean(lA)), list(integer(lA)), nil, list(cell), list(cell, integer(lA)),
		nil, list(cell), list(integer(lAB)), nil, list(integer(lA)), list(made), list(made, boolean(lO)), list(made, boolean(lO)),
		list(pair(lO, made, boolean(lO))), list(made), list(integer(lA)), list(integer(lA), own), list(integer(lA), own, boolean(lA)), list(integer(lAB), integer(lAB)), list(integer(lAB)),
	}
	envs := append(repeat(lO, 20), lB, lB)
	f = certified(f, list(boolean(lA), cell, integer(lA)), stacks, envs)
	for at := range 4 {
		f.Points[at].Slots = list(boolean(lA), cell, api.Type{})
	}
	return f
}

// full is an accepted class in which there is something of all that there may be.
func full() api.Class {
	return classOf(sets(), fork(), capturing(boolean(lO), integer(lA)), catches(), calling())
}

// TestFull (P17.1, P17.2): an ordinary class, and what else may stand in it: every thing that is changed is held against the reference.
func TestFull(t *testing.T) {
	asks(t, "full", full(), accepted)
	c := roomy(full())
	told := map[answer]int{}
	each(&c, func() { told[against(t, c)]++ })
	places := 0
	for a := range told {
		if a.e == api.ErrVerify && a.at >= 0 {
			places++
		}
	}
	for _, want := range []answer{{}, {-1, -1, api.ErrForm}, {0, -1, api.ErrVerify}, {1, -1, api.ErrVerify}, {2, -1, api.ErrVerify}, {3, -1, api.ErrVerify}} {
		if told[want] == 0 {
			t.Errorf("%v isn't told of any", want)
		}
	}
	// But for an OpInt and a jump, nothing is asked of which can fail alone, each place is told.
	if places < 32 {
		t.Errorf("just %d places are told: %v", places, told)
	}
}

func samples() []api.Class {
	odd := roomy(full())
	odd.Lattice.Order = odd.Lattice.Order[1:]
	odd.Funcs[0].Slots, odd.Funcs[0].Code[3].T, odd.Funcs[1].Param = -7, integer(99), api.Type{}
	refused := roomy(full())
	refused.Funcs[3].Regions = nil
	return []api.Class{{}, classOf(single()), classOf(sets(), long(2)), classOf(api.Lattice{}, api.Func{}), full(), refused, odd}
}

// told is what all calls tell of a class.
type told struct {
	Check answer
	Calls [][]bool
}

func callAll(c api.Class) told {
	all := told{Check: checked(c)}
	for _, k := range append([]int{math.MinInt, math.MaxInt}, span(-2, min(len(c.Funcs)+1, 70))...) {
		all.Calls = append(all.Calls, verify.Calls(c, k))
	}
	return all
}

// TestNothingPanics (R1): classes of all sorts.
func TestNothingPanics(t *testing.T) {
	for _, a := range samples() {
		if len(a.Funcs) > 2 { // the reference is asked of these
			continue
		}
		c := roomy(a)
		each(&c, func() { callAll(c) })
	}
	odd := samples()[6]
	each(&odd, func() { callAll(odd) })
	for _, n := range []int{math.MinInt, math.MinInt32, -1, 0, 1, 2, 28, math.MaxInt32, math.MaxInt} {
		for which := -1; which <= 28; which++ {
			strange := api.Type{Kind: n, Label: n, Heap: n, Exc: n, Parts: repeat(api.Type{Kind: n}, 3)}
			f := api.Func{
				Param: strange, Result: strange, Caps: list(strange), Heap: n, Exc: n, Slots: n, Code: []api.Ins{{Op: n, A: int64(n), T: strange}, {Op: which, A: int64(n)}},
				Handlers: []api.Handler{{From: n, To: n, At: n}}, Points: repeat(api.Point{Stack: list(strange, strange), Slots: list(strange), Env: n}, 2), Regions: []api.Region{{At: n, Join: n, Places: []int{n}}},
			}
			for _, l := range append(lattices(), api.Lattice{}, api.Lattice{Names: []string{"low"}}, api.Lattice{Order: [][]bool{nil, {true}}}) {
				callAll(classOf(l, f))
				callAll(classOf(l, long(2), f, f))
			}
		}
	}
}

// ring is a Ref that holds itself.
func ring() api.Type {
	t := ref(lO, integer(lO))
	t.Parts[0] = t
	return t
}

// shared is Pairs of Pairs, so deep, of which each has one and the same Part twice.
func shared(levels int) api.Type {
	t := integer(lO)
	for range levels {
		t = pair(lO, t, t)
	}
	return t
}

// TestGreatTypes (P17.1, P17.2, R1): classes with types of no end, or of very many nodes, aren't formed, and that is soon seen; Calls asks nothing within them.
func TestGreatTypes(t *testing.T) {
	for name, great := range map[string]api.Type{"ring": ring(), "deep": deep(100_000), "shared": shared(1000), "wide": {Kind: api.Pair, Parts: make([]api.Type, 100_000)}} {
		for where, put := range map[string]func(f *api.Func){
			"Param":  func(f *api.Func) { f.Param = great },
			"Result": func(f *api.Func) { f.Result = great },
			"Caps":   func(f *api.Func) { f.Caps = repeat(great, 3) },
			"T":      func(f *api.Func) { f.Code[0] = newOf(great) },
			"Stack":  func(f *api.Func) { f.Points[19].Stack = repeat(great, 3) },
			"Slots":  func(f *api.Func) { f.Points[1].Slots = repeat(great, 3) },
		} {
			c := roomy(full())
			put(&c.Funcs[3])
			asks(t, name+" as "+where, c, answer{-1, -1, api.ErrForm})
			calls(t, name+" as "+where, c, 3, verify.Calls(c, 3)...)
		}
		stack := list(fun(lO, great, great, lO, lA), great)
		f := api.Func{Code: repeat(op(api.OpCall), 2), Points: []api.Point{{Stack: stack}, {Stack: repeat(great, 3)}}}
		calls(t, name, classOf(sets(), f), 0, true, false)
	}
}

// TestGreatLists (P17.1, P17.2, R1): lists that are far too long.
func TestGreatLists(t *testing.T) {
	const n = 300_000
	asks(t, "functions", classOf(sets(), make([]api.Func, n)...), answer{-1, -1, api.ErrForm})
	f := long(n)
	asks(t, "code", classOf(sets(), f), answer{-1, -1, api.ErrForm})
	f.Code[n-1], f.Points[n-1].Stack = op(api.OpCall), list(fun(lO, integer(lO), integer(lO), lO, lO), integer(lO))
	got := verify.Calls(classOf(sets(), f), 0)
	if len(got) != n || !got[n-1] || got[n-2] {
		t.Error("the calls of a long function")
	}
}

// TestArgumentsAreLeft (R5): what is handed in is left as it is, its spare room too, and answers don't hang on that room.
func TestArgumentsAreLeft(t *testing.T) {
	all := samples()
	d := newDrawer(5)
	for range 100 {
		all = append(all, d.class())
	}
	for i, c := range all {
		want := callAll(c)
		a := roomy(c)
		before := whole(a)
		got := callAll(a)
		if !reflect.DeepEqual(whole(a), before) {
			t.Errorf("sample %d was changed", i)
		}
		if !reflect.DeepEqual(got, want) {
			t.Errorf("sample %d: an answer hangs on spare room", i)
		}
	}
}

// TestNewMemory (R5): what is told shares no memory with what else is told; whoever changes an answer changes no later one.
func TestNewMemory(t *testing.T) {
	for i, c := range samples() {
		c = roomy(c)
		first, second := callAll(c), callAll(c)
		if !apart(c, first.Calls, second.Calls) {
			t.Errorf("sample %d: memory is shared", i)
		}
		for _, list := range first.Calls {
			for at := range list {
				list[at] = !list[at]
			}
		}
		if !reflect.DeepEqual(callAll(c), second) {
			t.Errorf("sample %d: an answer hangs on another one", i)
		}
	}
}

// TestEmptyLists (R5): lists without elements may be nil or empty.
func TestEmptyLists(t *testing.T) {
	f := changed(long(2), func(f *api.Func) {
		f.Caps, f.Handlers, f.Regions = []api.Type{}, []api.Handler{}, []api.Region{}
		f.Points[0].Stack, f.Param.Parts, f.Points[0].Slots[0].Parts = []api.Type{}, []api.Type{}, []api.Type{}
	})
	asksOne(t, "empty", f, nowhere)
	f.Caps, f.Handlers, f.Regions, f.Points[0].Stack, f.Points[0].Slots[0].Parts = nil, nil, nil, nil, nil
	asksOne(t, "nil", f, nowhere)
	f.Points[0].Slots[0].Parts = []api.Type{}
	f.Code[0], f.Points[1].Stack = op(api.OpLoad), list(integer(lA))
	asksOne(t, "one of each", f, nowhere)
	asks(t, "no functions", api.Class{Lattice: sets(), Funcs: []api.Func{}}, answer{-1, -1, api.ErrForm})
	calls(t, "no code", classOf(sets(), api.Func{Code: []api.Ins{}, Points: nil}), 0)
	calls(t, "no points", classOf(sets(), api.Func{Code: nil, Points: []api.Point{}}), 0)
}

// TestAgain (R7): a call doesn't hang on those ahead of it.
func TestAgain(t *testing.T) {
	var first []told
	for round := range 3 {
		for i, c := range samples() {
			got := callAll(c)
			if round == 0 {
				first = append(first, got)
			} else if !reflect.DeepEqual(got, first[i]) {
				t.Errorf("sample %d is told otherwise", i)
			}
		}
	}
}
