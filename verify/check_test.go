package verify_test

import (
	"fmt"
	"testing"

	"palisade/api"
)

// example is the chapter's, with that Result.
func example(result int) api.Func {
	high := list(integer(1))
	return api.Func{
		Param: integer(1), Result: integer(result), Exc: none, Slots: 1,
		Code:   []api.Ins{op(api.OpLoad), op(api.OpReturn)},
		Points: []api.Point{{Slots: high}, {Stack: high, Slots: high}},
	}
}

// TestExamples (P17.1): those of the chapter.
func TestExamples(t *testing.T) {
	asks(t, "of high", classOf(chain(), example(1)), accepted)
	asks(t, "of low", classOf(chain(), example(0)), refusedAt(0, 1))
}

// TestUnformed (P17.1): of a class that isn't formed -1, -1 and ErrForm is told, also if there is more that is wrong.
func TestUnformed(t *testing.T) {
	for name, change := range map[string]func(c *api.Class){
		"no lattice":            func(c *api.Class) { c.Lattice = api.Lattice{} },
		"no order":              func(c *api.Class) { c.Lattice.Order = nil },
		"no functions":          func(c *api.Class) { c.Funcs = nil },
		"too many functions":    func(c *api.Class) { c.Funcs = repeat(c.Funcs[0], api.MaxFuncs+1) },
		"Param":                 func(c *api.Class) { c.Funcs[0].Param = integer(2) },
		"Result":                func(c *api.Class) { c.Funcs[1].Result = api.Type{} },
		"Heap":                  func(c *api.Class) { c.Funcs[1].Heap = none },
		"Exc":                   func(c *api.Class) { c.Funcs[1].Exc = 2 },
		"Slots":                 func(c *api.Class) { c.Funcs[0].Slots = 2 },
		"a type on a stack":     func(c *api.Class) { c.Funcs[1].Points[1].Stack = list(api.Type{}) },
		"a type of a slot":      func(c *api.Class) { c.Funcs[1].Points[1].Slots = list(integer(-1)) },
		"an Env":                func(c *api.Class) { c.Funcs[1].Points[0].Env = none },
		"too much on a stack":   func(c *api.Class) { c.Funcs[1].Points[0].Stack = repeat(integer(0), api.MaxStack+1) },
		"no Op":                 func(c *api.Class) { c.Funcs[1].Code[0].Op = 28 },
		"a type of no OpNew":    func(c *api.Class) { c.Funcs[1].Code[0].T = integer(0) },
		"no type of an OpNew":   func(c *api.Class) { c.Funcs[1].Code[0] = newOf(api.Type{}) },
		"a number of no OpLoad": func(c *api.Class) { c.Funcs[1].Code[1].A = 1 },
		"a region":              func(c *api.Class) { c.Funcs[0].Regions = []api.Region{{Join: -2}} },
	} {
		c := roomy(classOf(chain(), example(1), example(1)))
		asks(t, "as it was", c, accepted)
		change(&c)
		asks(t, name, c, answer{-1, -1, api.ErrForm})
		c.Funcs = append(c.Funcs, example(0), api.Func{})
		if name != "no functions" {
			asks(t, name+", with more that is wrong", c, answer{-1, -1, api.ErrForm})
		}
	}
	asks(t, "nothing", api.Class{}, answer{-1, -1, api.ErrForm})
}

// TestNotWellFormed (P17.1): of a class that isn't well formed the first function that isn't is told, whatever else isn't accepted.
func TestNotWellFormed(t *testing.T) {
	for name, change := range map[string]func(f *api.Func){
		"no code":             func(f *api.Func) { f.Code, f.Points = nil, nil },
		"no points":           func(f *api.Func) { f.Points = nil },
		"a point too many":    func(f *api.Func) { f.Points = append(f.Points, f.Points[0]) },
		"no room for Caps":    func(f *api.Func) { f.Caps = list(integer(0)) },
		"a slot":              func(f *api.Func) { f.Code[0].A = 1 },
		"a function":          func(f *api.Func) { f.Code[0] = op(api.OpClose, 9) },
		"a label":             func(f *api.Func) { f.Code[0] = op(api.OpOut, 2) },
		"a jump to itself":    func(f *api.Func) { f.Code[0] = op(api.OpJump) },
		"a branch to itself":  func(f *api.Func) { f.Code[0] = op(api.OpUnless) },
		"a jump out of it":    func(f *api.Func) { f.Code[0] = op(api.OpJump, 2) },
		"the last one":        func(f *api.Func) { f.Code[1] = op(api.OpPop) },
		"a handler":           func(f *api.Func) { f.Handlers = []api.Handler{{From: 0, To: 1, At: 0}} },
		"a region":            func(f *api.Func) { f.Regions = []api.Region{{At: 2, Join: none}} },
		"two regions":         func(f *api.Func) { f.Regions = repeat(api.Region{Join: none, Places: []int{1}}, 2) },
		"a place of a region": func(f *api.Func) { f.Regions = []api.Region{{Join: 1, Places: []int{1}}} },
	} {
		for k := range 4 {
			c := classOf(chain(), example(1), example(1), example(1), example(1))
			f := roomy(example(1))
			change(&f)
			c.Funcs[k] = f
			asks(t, fmt.Sprint(name, " in ", k), c, answer{k, -1, api.ErrVerify})
			// Those that are well formed, but not accepted, aren't asked then, wherever they stand.
			c = classOf(chain(), example(0), example(0), example(0), example(0))
			c.Funcs[k] = f
			asks(t, fmt.Sprint(name, " in ", k, " among others"), c, answer{k, -1, api.ErrVerify})
			c.Funcs[3] = f
			asks(t, fmt.Sprint(name, " in ", k, " and 3"), c, answer{k, -1, api.ErrVerify})
		}
	}
}

// long is an accepted function of sets with an OpInt and an OpPop by turns, n places long (an even number).
func long(n int) api.Func {
	f := api.Func{Param: integer(lA), Result: integer(lAB), Heap: lO, Exc: none, Slots: 1}
	for at := range n {
		p := api.Point{Slots: list(integer(lA)), Env: lO}
		i := op(api.OpInt)
		if at%2 == 1 {
			p.Stack = list(integer(lB))
			i = op(api.OpPop)
		}
		f.Code, f.Points = append(f.Code, i), append(f.Points, p)
	}
	f.Code[n-1] = op(api.OpReturn)
	return f
}

// TestFirst (P17.1): the first place that isn't accepted is told, of the first function that has one.
func TestFirst(t *testing.T) {
	const n, functions = 6, 4
	for place := range n {
		for k := range functions {
			c := classOf(sets(), repeat(long(n), functions)...)
			c.Funcs[k] = roomy(long(n))
			c.Funcs[k].Code[place] = op(api.OpAdd)
			if place == n-1 {
				c.Funcs[k].Code[place] = op(api.OpReturn)
				c.Funcs[k].Result = integer(lA)
			}
			asks(t, fmt.Sprint("at ", place, " of ", k), c, refusedAt(k, place))
			for other := range functions {
				for behind := range n {
					d := roomy(c)
					d.Funcs[other].Code[behind] = op(api.OpAdd)
					if behind == n-1 {
						d.Funcs[other].Code[behind] = op(api.OpRaise)
					}
					want := refusedAt(k, place)
					if other < k || other == k && behind < place {
						want = refusedAt(other, behind)
					}
					asks(t, fmt.Sprint("at ", place, " of ", k, " and ", behind, " of ", other), d, want)
				}
			}
		}
	}
}

// TestFullLength (P17.1): as many functions and as much code as there may be, refused at the very last place.
func TestFullLength(t *testing.T) {
	c := classOf(sets(), repeat(long(api.MaxCode), api.MaxFuncs)...)
	if got := checked(c); got != accepted {
		t.Error(got)
	}
	c.Funcs[api.MaxFuncs-1] = roomy(long(api.MaxCode))
	c.Funcs[api.MaxFuncs-1].Result = boolean(lAB)
	if got := checked(c); got != refusedAt(api.MaxFuncs-1, api.MaxCode-1) {
		t.Error(got)
	}
}

// TestBeginning (P17.1): an empty stack, Param, the Caps and nothing else fits point 0; if not, 0 is told.
func TestBeginning(t *testing.T) {
	base := long(2)
	base.Param, base.Caps, base.Slots = integer(lA), list(boolean(lB), ref(lO, integer(lA))), 5
	begins := func(name string, ok bool, slots ...api.Type) {
		t.Helper()
		f := roomy(base)
		f.Points[0].Slots = append(slots, make([]api.Type, 5-len(slots))...)
		f.Points[1].Slots = make([]api.Type, 5)
		want := refusedAt(0, 0)
		if ok {
			want = accepted
		}
		asks(t, name, classOf(sets(), f), want)
		f.Points[0].Stack = list(integer(lO))
		f.Points[1].Stack = list(integer(lO), integer(lO))
		f.Code[1] = op(api.OpRaise)
		asks(t, name+", with something on the stack", classOf(sets(), f), refusedAt(0, 0))
	}
	begins("as it is", true, integer(lA), boolean(lB), ref(lO, integer(lA)))
	begins("nothing", true)
	begins("Param alone", true, integer(lA))
	begins("a Cap alone", true, api.Type{}, boolean(lB))
	begins("the last Cap alone", true, api.Type{}, api.Type{}, ref(lO, integer(lA)))
	for _, label := range labels {
		begins(fmt.Sprint("Param as ", label), leq(lA, label), integer(label), boolean(lB), ref(lO, integer(lA)))
		begins(fmt.Sprint("a Cap as ", label), leq(lB, label), integer(lA), boolean(label), ref(lO, integer(lA)))
		begins(fmt.Sprint("the last Cap as ", label), true, integer(lA), boolean(lB), ref(label, integer(lA)))
		begins(fmt.Sprint("what the last Cap holds as ", label), label == lA, integer(lA), boolean(lB), ref(lO, integer(label)))
		begins(fmt.Sprint("a slot behind the Caps as ", label), false, integer(lA), boolean(lB), ref(lO, integer(lA)), integer(label))
		begins(fmt.Sprint("the last slot as ", label), false, integer(lA), boolean(lB), ref(lO, integer(lA)), api.Type{}, integer(label))
	}
	begins("Param as a Bool", false, boolean(lAB), boolean(lB))
	begins("a Cap as an Int", false, integer(lA), integer(lAB))
	begins("one place further", false, api.Type{}, integer(lAB), boolean(lAB), ref(lAB, integer(lA)))
}

// TestBeginningFirst (P17.1): what isn't accepted behind it isn't told, if the beginning doesn't fit; and the beginning of a later function is asked only behind the ones ahead of it.
func TestBeginningFirst(t *testing.T) {
	odd, late := roomy(long(4)), roomy(long(4))
	odd.Points[0].Slots = list(boolean(lA))
	late.Code[2] = op(api.OpAdd)
	both := roomy(odd)
	both.Points[2].Slots, both.Code[1] = list(integer(lAB)), op(api.OpNot)
	asks(t, "with what fits behind it", classOf(sets(), both), refusedAt(0, 0))
	asks(t, "behind another one", classOf(sets(), long(4), odd), refusedAt(1, 0))
	asks(t, "behind one that isn't accepted", classOf(sets(), late, odd), refusedAt(0, 2))
	asks(t, "ahead of one that isn't accepted", classOf(sets(), odd, late), refusedAt(0, 0))
}

// TestNotComeTo (P17.1): places that nothing leads to are asked as all others are.
func TestNotComeTo(t *testing.T) {
	f := api.Func{
		Param: integer(lA), Result: integer(lAB), Heap: lO, Exc: none, Slots: 1,
		Code: []api.Ins{op(api.OpJump, 3), op(api.OpNot), op(api.OpPop), op(api.OpLoad), op(api.OpReturn)},
		Points: []api.Point{
			{Slots: list(integer(lA)), Env: lO}, {Stack: list(boolean(lA)), Slots: list(boolean(lB)), Env: lO}, {Stack: list(boolean(lA)), Slots: list(integer(lA)), Env: lO},
			{Slots: list(integer(lA)), Env: lO}, {Stack: list(integer(lA)), Slots: list(integer(lA)), Env: lO},
		},
	}
	asks(t, "a slot of another Kind", classOf(sets(), f), refusedAt(0, 1))
	f.Points[1].Slots = list(integer(lO))
	asks(t, "a lesser slot", classOf(sets(), f), accepted)
	f.Points[1].Stack = list(integer(lA))
	asks(t, "an Int", classOf(sets(), f), refusedAt(0, 1))
}
