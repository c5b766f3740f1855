package shape_test

import (
	"fmt"
	"testing"

	"palisade/api"
)

// TestExamples (P14.1): those of the chapter.
func TestExamples(t *testing.T) {
	breaks(t, "OpInt, OpReturn", function(op(api.OpInt, 5), op(api.OpReturn)), 0)
	breaks(t, "OpInt alone", function(op(api.OpInt, 5)), 2)
	breaks(t, "OpJump to 0", function(op(api.OpJump, 0), op(api.OpReturn)), 2)
	breaks(t, "a handler from 1 to 1", handled(3, api.Handler{From: 1, To: 1, At: 2}), 3)
}

// TestBreaking (P14.1): the functions that others are held against break just what is said of them.
func TestBreaking(t *testing.T) {
	for rule, f := range breaking() {
		breaks(t, fmt.Sprint("rule ", rule), f, rule)
		for other := 1; other <= 4; other++ {
			if c := classOf(chain(), f); refRule(c, f, other) == (rule == other) {
				t.Errorf("the function of rule %d and rule %d", rule, other)
			}
		}
	}
}

// TestCounts (P14.1): rule 1: how many instructions, points and slots there are.
func TestCounts(t *testing.T) {
	breaks(t, "no instruction", function(), 1)
	for _, n := range []int{1, 2, 3, 1999, 2000} {
		breaks(t, fmt.Sprint(n, " instructions"), long(n), 0)
		for _, points := range []int{0, 1, n - 1, n, n + 1} {
			f := long(n)
			f.Points = repeat(f.Points[0], min(points, 2000))
			rule := 1
			if len(f.Points) == n {
				rule = 0
			}
			breaks(t, fmt.Sprint(n, " instructions, ", points, " points"), f, rule)
		}
	}
	empty := function()
	empty.Points = repeat(api.Point{Slots: make([]api.Type, 1)}, 1)
	breaks(t, "a point, no instruction", empty, 1)
	for caps := range 17 {
		for slots := 1; slots <= 18; slots++ {
			f := slotted(long(2), slots)
			f.Caps = repeat(integer(0), caps)
			rule := 1
			if slots >= caps+1 {
				rule = 0
			}
			breaks(t, fmt.Sprint(caps, " Caps, ", slots, " slots"), f, rule)
		}
	}
}

// TestSlots (P14.1): rule 2: OpLoad and OpStore at Slots - 1, at Slots, and around.
func TestSlots(t *testing.T) {
	for _, which := range []int{api.OpLoad, api.OpStore} {
		for _, slots := range []int{1, 2, 3, 249, 250} {
			for _, a := range []int{0, 1, slots - 1, slots, slots + 1, 256, maxShort} {
				for at := range 2 {
					rule := 2
					if a < slots {
						rule = 0
					}
					breaks(t, fmt.Sprint("slot ", a, " of ", slots), slotted(putting(3, at, op(which, a)), slots), rule)
				}
			}
		}
	}
	// What counts is how many slots there are, not how many of them are filled at the beginning.
	f := slotted(putting(2, 0, op(api.OpLoad, 4)), 5)
	f.Caps = repeat(integer(0), 2)
	breaks(t, "a slot behind the Caps", f, 0)
}

// TestClose (P14.1): rule 2: OpClose of the last function and of one more.
func TestClose(t *testing.T) {
	for _, count := range []int{1, 2, 3, 59, 60} {
		for _, a := range []int{0, 1, count - 1, count, count + 1, 60, maxShort} {
			for _, k := range []int{0, count / 2, count - 1} {
				funcs := repeat(long(2), count)
				funcs[k] = putting(3, 1, op(api.OpClose, a))
				rule := 2
				if a < count {
					rule = 0
				}
				asks(t, fmt.Sprint("function ", a, " of ", count), classOf(cube(), funcs...), k, rule)
			}
		}
	}
	// A function that there is may be one that isn't well formed, or more slots or labels than functions.
	asks(t, "one that is broken", classOf(chain(), putting(2, 0, op(api.OpClose, 1)), breaking()[4]), 1, 4)
	asks(t, "more slots than functions", classOf(cube(), slotted(putting(2, 0, op(api.OpClose, 1)), 9)), 0, 2)
}

// TestOut (P14.1): rule 2: OpOut of the last label and of one more.
func TestOut(t *testing.T) {
	for _, l := range lattices() {
		labels := len(l.Names)
		for _, a := range []int{0, 1, labels - 1, labels, labels + 1, 7, 8, maxShort} {
			rule := 2
			if a < labels {
				rule = 0
			}
			f := slotted(putting(3, 1, op(api.OpOut, a)), 20)
			asks(t, fmt.Sprint("label ", a, " of ", labels), classOf(l, f), 0, rule)
			asks(t, fmt.Sprint("label ", a, " of ", labels, ", of a later one"), classOf(l, long(2), f, long(2), long(2)), 1, rule)
		}
	}
}

// TestJumps (P14.1): rule 2: OpJump and OpUnless to themselves, behind, to the last place, and beyond.
func TestJumps(t *testing.T) {
	for _, which := range []int{api.OpJump, api.OpUnless} {
		for _, n := range []int{2, 3, 5, 2000} {
			for _, i := range []int{0, 1, n / 2, n - 2, n - 1} {
				for _, a := range []int{0, i - 1, i, i + 1, i + 2, n - 2, n - 1, n, n + 1, maxShort} {
					if a < 0 {
						continue
					}
					rule := 2
					if a > i && a < n {
						rule = 0
					}
					breaks(t, fmt.Sprint("from ", i, " to ", a, " of ", n), slotted(putting(n, i, op(which, a)), 3), rule)
				}
			}
		}
	}
}

// TestLast (P14.1): rule 2: each Op as the last one, alone and behind others.
func TestLast(t *testing.T) {
	for which := api.OpInt; which <= api.OpReturn; which++ {
		for _, n := range []int{1, 2, 3, 2000} {
			for _, a := range []int{0, 1, n - 1, n} {
				i := op(which)
				if hasNumber(which) {
					i.A = int64(a)
				}
				if which == api.OpBool && a > 1 {
					continue
				}
				rule := 2
				if which == api.OpReturn || which == api.OpRaise {
					rule = 0
				}
				breaks(t, fmt.Sprint("Op ", which, " of ", a, " as number ", n-1), slotted(putting(n, n-1, i), 2), rule)
			}
		}
	}
	// None of them is asked to stand at the end only.
	breaks(t, "OpReturn and OpRaise ahead", function(op(api.OpReturn), op(api.OpRaise), op(api.OpReturn), op(api.OpRaise)), 0)
}

func hasNumber(which int) bool {
	switch which {
	case api.OpInt, api.OpBool, api.OpLoad, api.OpStore, api.OpClose, api.OpOut, api.OpJump, api.OpUnless:
		return true
	}
	return false
}

// TestNumbersThatPointNowhere (P14.1): rule 2 asks nothing of an OpInt's or OpBool's number.
func TestNumbersThatPointNowhere(t *testing.T) {
	for _, a := range []int{-1 << 63, -1, 0, 1, 2, maxShort, 1<<63 - 1} {
		breaks(t, "OpInt", putting(3, 1, op(api.OpInt, a)), 0)
	}
	breaks(t, "OpBool", putting(3, 1, op(api.OpBool, 1)), 0)
	for which := api.OpInt; which <= api.OpReturn; which++ {
		if !hasNumber(which) {
			breaks(t, fmt.Sprint("Op ", which), putting(3, 1, op(which)), 0)
		}
	}
}

// TestHandlers (P14.1): rule 3, in all ways of three numbers up to the edges.
func TestHandlers(t *testing.T) {
	for _, n := range []int{1, 2, 4} {
		for from := range n + 2 {
			for to := range n + 2 {
				for at := range n + 2 {
					h := api.Handler{From: from, To: to, At: at}
					rule := 3
					if from < to && to <= at && at < n {
						rule = 0
					}
					breaks(t, fmt.Sprint(h, " of ", n), handled(n, h), rule)
				}
			}
		}
	}
	fine := api.Handler{From: 0, To: 1, At: 1999}
	for h, rule := range map[api.Handler]int{
		fine:                                 0,
		{From: 0, To: 1, At: 2000}:           3,
		{From: 0, To: 1999, At: 1999}:        0,
		{From: 1998, To: 1999, At: 1999}:     0,
		{From: 1999, To: 1999, At: 1999}:     3,
		{From: 1998, To: 2000, At: 1999}:     3,
		{From: 1, To: 0, At: 1}:              3,
		{From: 0, To: maxShort, At: 1999}:    3,
		{From: 0, To: 1, At: maxShort}:       3,
		{From: maxShort, To: 1, At: 1}:       3,
		{From: 0, To: 0, At: maxShort}:       3,
		{From: maxShort, To: 0, At: 0}:       3,
		{From: 5, To: maxShort, At: 5}:       3,
		{From: maxShort - 1, To: 1, At: 5}:   3,
		{From: 999, To: 1000, At: 1000}:      0,
		{From: 0, To: 1000, At: 999}:         3,
		{From: 999, To: maxShort, At: 65535}: 3,
	} {
		breaks(t, fmt.Sprint(h, " of 2000"), handled(2000, h), rule)
	}
}

// TestManyHandlers (P14.1): rule 3 is asked of each, and of no two together.
func TestManyHandlers(t *testing.T) {
	fine, last := api.Handler{From: 2, To: 3, At: 3}, api.Handler{From: 0, To: 2, At: 4}
	breaks(t, "alike, turned, within one another", handled(5, fine, last, fine, last, api.Handler{From: 0, To: 4, At: 4}), 0)
	wrong := api.Handler{From: 2, To: 2, At: 3}
	breaks(t, "the first one", handled(5, wrong, fine, last), 3)
	breaks(t, "one between", handled(5, fine, wrong, last), 3)
	breaks(t, "the last one", handled(5, fine, last, wrong), 3)
	breaks(t, "as many as may be", handled(5, repeat(fine, 2000)...), 0)
	breaks(t, "the last one of as many as may be", handled(5, append(repeat(fine, 1999), wrong)...), 3)
}

// TestRegionPlaces (P14.1): rule 4, one region: all Ats, Joins and two Places, up to the edges.
func TestRegionPlaces(t *testing.T) {
	const n = 4
	for at := range n + 2 {
		for join := none; join < n+2; join++ {
			fine := at < n && (join == none || join > at && join < n)
			for _, places := range somePlaces(n + 2) {
				holds := fine
				for i, place := range places {
					holds = holds && place > at && place < n && place != join && (i == 0 || place > places[i-1])
				}
				rule := 4
				if holds {
					rule = 0
				}
				r := api.Region{At: at, Join: join, Places: places}
				asks(t, fmt.Sprint(r), classOf(chain(), regional(n, r)), 0, rule)
			}
		}
	}
}

// somePlaces are all lists of up to three numbers below n.
func somePlaces(n int) [][]int {
	all := [][]int{nil}
	for a := range n {
		all = append(all, []int{a})
		for b := range n {
			all = append(all, []int{a, b})
			for c := range n {
				all = append(all, []int{a, b, c})
			}
		}
	}
	return all
}

// TestRegions (P14.1): rule 4 at the edges that the chapter names.
func TestRegions(t *testing.T) {
	for _, n := range []int{3, 10, 2000} {
		for name, x := range map[string]struct {
			r    api.Region
			rule int
		}{
			"of nothing":             {api.Region{At: 0, Join: none}, 0},
			"At n - 1":               {api.Region{At: n - 1, Join: none}, 0},
			"At n":                   {api.Region{At: n, Join: none}, 4},
			"far At":                 {api.Region{At: maxShort, Join: none}, 4},
			"Join at At":             {api.Region{At: 1, Join: 1}, 4},
			"Join ahead of At":       {api.Region{At: 1, Join: 0}, 4},
			"Join at 0":              {api.Region{At: 0, Join: 0}, 4},
			"Join at At + 1":         {api.Region{At: 1, Join: 2}, 0},
			"Join at n - 1":          {api.Region{At: 0, Join: n - 1}, 0},
			"Join at n":              {api.Region{At: 0, Join: n}, 4},
			"Join at n, At n - 1":    {api.Region{At: n - 1, Join: n}, 4},
			"far Join":               {api.Region{At: 0, Join: 65534}, 4},
			"a Place at At":          {api.Region{At: 1, Join: none, Places: []int{1}}, 4},
			"a Place ahead of At":    {api.Region{At: 1, Join: none, Places: []int{0}}, 4},
			"Places from ahead":      {api.Region{At: 1, Join: none, Places: []int{0, 2}}, 4},
			"a Place at At + 1":      {api.Region{At: 1, Join: none, Places: []int{2}}, 0},
			"a Place at n - 1":       {api.Region{At: 0, Join: none, Places: []int{n - 1}}, 0},
			"a Place at n":           {api.Region{At: 0, Join: none, Places: []int{n}}, 4},
			"a last Place at n":      {api.Region{At: 0, Join: none, Places: []int{1, n}}, 4},
			"a far Place":            {api.Region{At: 0, Join: none, Places: []int{maxShort}}, 4},
			"a Place at Join":        {api.Region{At: 0, Join: 2, Places: []int{2}}, 4},
			"a later Place at Join":  {api.Region{At: 0, Join: 2, Places: []int{1, 2}}, 4},
			"a Place behind Join":    {api.Region{At: 0, Join: 1, Places: []int{2}}, 0},
			"a Place ahead of Join":  {api.Region{At: 0, Join: 2, Places: []int{1}}, 0},
			"Places that rise":       {api.Region{At: 0, Join: none, Places: []int{1, 2}}, 0},
			"Places that fall":       {api.Region{At: 0, Join: none, Places: []int{2, 1}}, 4},
			"Places alike":           {api.Region{At: 0, Join: none, Places: []int{1, 1}}, 4},
			"later Places alike":     {api.Region{At: 0, Join: none, Places: []int{1, 2, 2}}, 4},
			"later Places that fall": {api.Region{At: 0, Join: none, Places: []int{1, 2, 1}}, 4},
		} {
			breaks(t, fmt.Sprint(name, ", n ", n), regional(n, x.r), x.rule)
		}
	}
}

// TestManyRegions (P14.1): rule 4: each At is above the one ahead, and each region is asked.
func TestManyRegions(t *testing.T) {
	const n = 6
	for _, ats := range somePlaces(n + 2) {
		rule := 0
		var all []api.Region
		for i, at := range ats {
			all = append(all, api.Region{At: at, Join: none})
			if at >= n || i > 0 && at <= ats[i-1] {
				rule = 4
			}
		}
		asks(t, fmt.Sprint("At ", ats), classOf(single(), regional(n, all...)), 0, rule)
	}
	// Joins and Places of two regions have nothing to do with one another.
	first, second := api.Region{At: 0, Join: 5, Places: []int{1, 2, 3, 4}}, api.Region{At: 1, Join: 3, Places: []int{2, 5}}
	breaks(t, "across one another", regional(n, first, second), 0)
	wrong := api.Region{At: 2, Join: 2}
	breaks(t, "the second one", regional(n, first, wrong), 4)
	breaks(t, "one between", regional(n, first, wrong, api.Region{At: 4, Join: none}), 4)
	breaks(t, "one whose Places are wrong", regional(n, first, api.Region{At: 3, Join: none, Places: []int{5, 4}}), 4)
}

// TestFirstRule (P14.1): where several rules are broken, the first one is told.
func TestFirstRule(t *testing.T) {
	for set := range 16 {
		f := slotted(long(3), 3)
		first := 0
		for rule := 4; rule >= 1; rule-- {
			if set&(1<<(rule-1)) == 0 {
				continue
			}
			first = rule
			switch rule {
			case 1:
				f.Caps = repeat(integer(0), 3)
			case 2:
				f.Code[1] = op(api.OpLoad, 3)
			case 3:
				f.Handlers = []api.Handler{{From: 0, To: 1, At: 3}}
			case 4:
				f.Regions = []api.Region{{At: 0, Join: 3}}
			}
		}
		breaks(t, fmt.Sprint("set ", set), f, first)
	}
	// Without an instruction nothing that the later rules ask can hold.
	f := function()
	f.Handlers, f.Regions = []api.Handler{{}}, []api.Region{{}}
	breaks(t, "no instruction", f, 1)
	// The last instruction's rule is told ahead of the handlers'.
	g := handled(2, api.Handler{})
	g.Code[1] = op(api.OpPop)
	breaks(t, "the last one, and a handler", g, 2)
}

// TestFirstFunction (P14.1, P14.3): of all rows of four functions the first one that isn't well formed is told, whatever stands behind.
func TestFirstFunction(t *testing.T) {
	all := breaking()
	for number := range 5 * 5 * 5 * 5 {
		var funcs []api.Func
		k, rule := 0, 0
		for rest, i := number, 0; i < 4; rest, i = rest/5, i+1 {
			funcs = append(funcs, all[rest%5])
			if rule == 0 && rest%5 != 0 {
				k, rule = i, rest%5
			}
		}
		asks(t, fmt.Sprint("row ", number), classOf(chain(), funcs...), k, rule)
	}
	for k := range 60 {
		funcs := repeat(long(2), 60)
		for i := k; i < 60; i++ {
			funcs[i] = all[1+(k+i)%4]
		}
		asks(t, fmt.Sprint("from ", k, " on"), classOf(chain(), funcs...), k, 1+2*k%4)
	}
}

// TestUnformed (P14.1, R3): of a class that isn't formed -1, 0 and ErrForm, also where rules are broken, and ahead of them.
func TestUnformed(t *testing.T) {
	unformed(t, "nothing", api.Class{})
	unformed(t, "no functions", classOf(chain()))
	unformed(t, "too many functions", classOf(chain(), repeat(long(2), 61)...))
	unformed(t, "no lattice", classOf(api.Lattice{}, long(2)))
	for name, change := range map[string]func(f *api.Func){
		"no type":         func(f *api.Func) { f.Param = api.Type{} },
		"no slots":        func(f *api.Func) { *f = slotted(*f, 0) },
		"too many slots":  func(f *api.Func) { *f = slotted(*f, 251) },
		"too many Caps":   func(f *api.Func) { *f = slotted(*f, 20); f.Caps = repeat(integer(0), 17) },
		"no label":        func(f *api.Func) { f.Heap = 2 },
		"too long":        func(f *api.Func) { *f = long(2001) },
		"no Op":           func(f *api.Func) { f.Code[0].Op = 28 },
		"the Op 0":        func(f *api.Func) { f.Code[0].Op = 0 },
		"a number":        func(f *api.Func) { f.Code[0] = op(api.OpPop, 1) },
		"below slots":     func(f *api.Func) { f.Code[0] = op(api.OpLoad, -1) },
		"below functions": func(f *api.Func) { f.Code[0] = op(api.OpClose, -1) },
		"below labels":    func(f *api.Func) { f.Code[0] = op(api.OpOut, -1) },
		"below places":    func(f *api.Func) { f.Code[0] = op(api.OpJump, -1) },
		"far behind":      func(f *api.Func) { f.Code[0] = op(api.OpUnless, 65536) },
		"a point's slots": func(f *api.Func) { f.Points = repeat(api.Point{Slots: make([]api.Type, 2)}, 2) },
		"a point's Env":   func(f *api.Func) { f.Points = repeat(api.Point{Slots: make([]api.Type, 1), Env: 2}, 2) },
		"a handler":       func(f *api.Func) { f.Handlers = []api.Handler{{From: -1, To: 1, At: 1}} },
		"a region":        func(f *api.Func) { f.Regions = []api.Region{{At: -1, Join: none}} },
		"a Join":          func(f *api.Func) { f.Regions = []api.Region{{At: 0, Join: -2}} },
		"a far Join":      func(f *api.Func) { f.Regions = []api.Region{{At: 0, Join: 65535}} },
		"a Place":         func(f *api.Func) { f.Regions = []api.Region{{At: 0, Join: none, Places: []int{-1}}} },
		"handlers":        func(f *api.Func) { f.Handlers = repeat(api.Handler{From: 0, To: 1, At: 1}, 2001) },
	} {
		f := long(2)
		change(&f)
		unformed(t, name, classOf(chain(), f))
		for rule, g := range breaking() {
			unformed(t, fmt.Sprint(name, ", behind one of rule ", rule), classOf(chain(), g, f))
			unformed(t, fmt.Sprint(name, ", ahead of one of rule ", rule), classOf(chain(), f, g))
		}
	}
}
