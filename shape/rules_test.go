package shape_test

import (
	"math"
	"reflect"
	"testing"

	"palisade/api"
	"palisade/shape"
)

// callAll makes all calls, Pops of each function at all places, and at such as are none.
func callAll(c api.Class) {
	shape.Check(c)
	for _, f := range append([]api.Func{{}, long(2)}, c.Funcs...) {
		for at := -1; at <= min(len(f.Code), 50); at++ {
			shape.Pops(f, c, at)
			shape.Pops(f, api.Class{}, at)
		}
		for _, at := range []int{math.MinInt, len(f.Code) - 1, len(f.Code), math.MaxInt} {
			shape.Pops(f, c, at)
		}
	}
}

func samples() []api.Class {
	odd := roomy(full())
	odd.Lattice.Order = odd.Lattice.Order[1:]
	odd.Funcs[0].Slots, odd.Funcs[0].Code[3].T, odd.Funcs[1].Param = -7, integer(99), api.Type{}
	return []api.Class{{}, classOf(single()), classOf(single(), long(2)), classOf(api.Lattice{}, api.Func{}), classOf(chain(), breaking()...), full(), odd}
}

// TestNothingPanics (R1): classes of all sorts.
func TestNothingPanics(t *testing.T) {
	for _, a := range samples() {
		callAll(a)
		c := roomy(a)
		each(&c, func() { callAll(c) })
	}
	for _, n := range []int{math.MinInt, math.MinInt32, -1, 0, 1, 2, 28, math.MaxInt32, math.MaxInt} {
		for which := -1; which <= 28; which++ {
			odd := api.Type{Kind: n, Label: n, Heap: n, Exc: n, Parts: repeat(api.Type{Kind: n}, 3)}
			f := api.Func{
				Param: odd, Result: odd, Caps: []api.Type{odd}, Heap: n, Exc: n, Slots: n, Code: []api.Ins{{Op: n, A: int64(n), T: odd}, {Op: which, A: int64(n)}},
				Handlers: []api.Handler{{From: n, To: n, At: n}}, Points: []api.Point{{Stack: []api.Type{odd}, Slots: []api.Type{odd}, Env: n}}, Regions: []api.Region{{At: n, Join: n, Places: []int{n}}},
			}
			for _, l := range append(lattices(), api.Lattice{}, api.Lattice{Names: []string{"low"}}, api.Lattice{Order: [][]bool{nil, {true}}}) {
				callAll(classOf(l, f))
				callAll(classOf(l, long(2), f, f))
			}
		}
	}
}

// ring is a Ref that holds itself.
func ring() api.Type {
	t := ref(integer(0))
	t.Parts[0] = t
	return t
}

// shared is Pairs of Pairs, so deep, of which each has one and the same Part twice.
func shared(deep int) api.Type {
	t := integer(0)
	for range deep {
		t = api.Type{Kind: api.Pair, Parts: []api.Type{t, t}}
	}
	return t
}

// TestGreatTypes (P14.1, R1): classes with types of no end, or of very many nodes, aren't formed, and that is soon seen; Pops asks none of them.
func TestGreatTypes(t *testing.T) {
	deep := integer(0)
	for range 100_000 {
		deep = ref(deep)
	}
	for name, great := range map[string]api.Type{"ring": ring(), "deep": deep, "shared": shared(1000), "wide": {Kind: api.Pair, Parts: make([]api.Type, 100_000)}} {
		for where, put := range map[string]func(f *api.Func){
			"Param":  func(f *api.Func) { f.Param = great },
			"Result": func(f *api.Func) { f.Result = great },
			"Caps":   func(f *api.Func) { f.Caps = repeat(great, 3) },
			"T":      func(f *api.Func) { f.Code[0] = api.Ins{Op: api.OpNew, T: great} },
			"Stack":  func(f *api.Func) { f.Points[1].Stack = repeat(great, 3) },
			"Slots":  func(f *api.Func) { f.Points[1].Slots = repeat(great, 1) },
		} {
			f := putting(3, 1, op(api.OpClose, 0))
			put(&f)
			c := classOf(single(), f)
			unformed(t, name+" as "+where, c)
			pops(t, name+" as "+where, f, c, 1, len(f.Caps), 1)
		}
	}
}

// TestGreatLists (P14.1, P14.2, R1): lists that are far too long.
func TestGreatLists(t *testing.T) {
	const n = 300_000
	unformed(t, "functions", classOf(single(), make([]api.Func, n)...))
	unformed(t, "code", classOf(single(), long(n)))
	unformed(t, "Caps", classOf(single(), api.Func{Caps: make([]api.Type, n)}))
	f := putting(n, n-2, op(api.OpClose, n-1))
	c := classOf(single(), make([]api.Func, n)...)
	c.Funcs[n-1].Caps = make([]api.Type, n)
	pops(t, "the last one but one", f, c, n-2, n, 1)
	pops(t, "the last one", f, c, n-1, 1, 0)
}

// TestAsMuchAsMayBe (P14.1, R1): a class of as many functions, instructions, handlers, regions and Places as there may be.
func TestAsMuchAsMayBe(t *testing.T) {
	const n = api.MaxCode
	f := long(n)
	places := make([]int, n)
	for i := range n {
		f.Handlers = append(f.Handlers, api.Handler{From: 0, To: min(i+1, n-1), At: n - 1})
		places[i] = i
		f.Regions = append(f.Regions, api.Region{At: i, Join: none, Places: places[i+1:]})
	}
	g := f
	g.Regions = append([]api.Region{}, f.Regions...)
	g.Regions[n-1].Places = []int{n}
	if got := checked(classOf(cube(), repeat(f, api.MaxFuncs)...)); got != (answer{}) {
		t.Error(got)
	}
	if got := checked(classOf(cube(), append(repeat(f, api.MaxFuncs-1), g)...)); got != (answer{api.MaxFuncs - 1, 4, api.ErrVerify}) {
		t.Error(got)
	}
}

// TestArgumentsAreLeft (R5): what is handed in is left as it is, its spare room too, and answers don't hang on that room.
func TestArgumentsAreLeft(t *testing.T) {
	for i, c := range samples() {
		a := roomy(c)
		before := whole(a)
		callAll(a)
		if !reflect.DeepEqual(whole(a), before) {
			t.Errorf("sample %d was changed", i)
		}
		if checked(a) != checked(c) {
			t.Errorf("sample %d: an answer hangs on spare room", i)
		}
		for k, f := range a.Funcs {
			for at := range len(f.Code) + 2 {
				takes, puts := shape.Pops(c.Funcs[k], c, at)
				pops(t, "with spare room", f, a, at, takes, puts)
			}
		}
	}
}

// TestEmptyLists (R5): lists without elements may be nil or empty.
func TestEmptyLists(t *testing.T) {
	f := function(op(api.OpReturn))
	f.Caps, f.Handlers, f.Regions = []api.Type{}, []api.Handler{}, []api.Region{{At: 0, Join: none, Places: []int{}}}
	f.Param.Parts, f.Points[0].Stack = []api.Type{}, []api.Type{}
	g := function(op(api.OpReturn))
	g.Caps, g.Handlers, g.Regions = nil, nil, nil
	breaks(t, "empty", f, 0)
	breaks(t, "nil", g, 0)
	for _, code := range [][]api.Ins{nil, {}} {
		h := function()
		h.Code, h.Points = code, []api.Point{}
		breaks(t, "no code", h, 1)
		pops(t, "no code", h, api.Class{Funcs: []api.Func{}}, 0, 0, 0)
	}
	unformed(t, "no functions", api.Class{Lattice: single(), Funcs: []api.Func{}})
}

// TestAgain (R7): a call doesn't hang on those ahead of it.
func TestAgain(t *testing.T) {
	first := map[int]answer{}
	for round := range 3 {
		for i, c := range samples() {
			if round == 0 {
				first[i] = checked(c)
			} else if checked(c) != first[i] {
				t.Errorf("sample %d is told otherwise", i)
			}
		}
	}
}
