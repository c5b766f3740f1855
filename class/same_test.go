package class_test

import (
	"slices"
	"testing"

	"palisade/api"
	"palisade/class"
)

// samples are classes, formed and not.
func samples() []api.Class {
	odd := roomy(full())
	odd.Lattice.Order = odd.Lattice.Order[1:]
	odd.Funcs[0].Slots, odd.Funcs[0].Code[3].T, odd.Funcs[1].Param = -7, integer(99), api.Type{}
	return []api.Class{{}, classOf(single()), classOf(single(), plain()), classOf(api.Lattice{}, api.Func{}), full(), odd, classOf(cube(), full().Funcs...), sized(900)}
}

// TestSame (P13.2): a class is the same as one of other memory, with lists that are nil or empty; and as no other one.
func TestSame(t *testing.T) {
	for i, a := range samples() {
		for j, b := range samples() {
			if class.Same(a, b) != (i == j) || class.Same(roomy(a), b) != (i == j) {
				t.Errorf("%d and %d", i, j)
			}
		}
	}
	empty := api.Class{Lattice: api.Lattice{Names: []string{}, Order: [][]bool{}}, Funcs: []api.Func{}}
	lists := api.Func{Caps: []api.Type{}, Code: []api.Ins{}, Handlers: []api.Handler{}, Points: []api.Point{}, Regions: []api.Region{}, Param: api.Type{Parts: []api.Type{}}}
	inner := api.Func{Points: []api.Point{{Stack: []api.Type{}, Slots: []api.Type{}}}, Regions: []api.Region{{Places: []int{}}}, Code: []api.Ins{{T: api.Type{Parts: []api.Type{}}}}}
	if !class.Same(api.Class{}, empty) || !class.Same(classOf(single(), lists), classOf(single(), api.Func{})) || !class.Same(classOf(single(), inner), classOf(single(), api.Func{Points: make([]api.Point, 1), Regions: make([]api.Region, 1), Code: make([]api.Ins, 1)})) {
		t.Error("lists of no elements")
	}
}

// TestSameEachChange (P13.2): whatever one thing is changed, it is another class.
func TestSameEachChange(t *testing.T) {
	for _, before := range samples() {
		c := roomy(before)
		count := 0
		each(&c, func() {
			if count++; class.Same(before, c) || class.Same(c, before) {
				t.Fatalf("alike:\n%+v\n%+v", before, c)
			}
		})
		if !class.Same(before, c) || count < 2 {
			t.Error("changed back, or changes:", count)
		}
	}
}

// ring is a type that stands in itself: a Ref that holds a Ref that holds ..., with those labels, and then again.
func ring(labels ...int) api.Type {
	parts := make([][]api.Type, len(labels))
	for i := range parts {
		parts[i] = make([]api.Type, 1)
	}
	for i, a := range labels {
		parts[i][0] = api.Type{Kind: api.Ref, Label: a, Parts: parts[(i+1)%len(labels)]}
	}
	return parts[0][0]
}

// shared is a type that is so deep, whose two Parts are one and the same everywhere.
func shared(deep int, last api.Type) api.Type {
	for range deep - 1 {
		last = pair(0, last, last)
	}
	return last
}

// great are types of very many nodes, each with another one that is unlike it in its last one.
func great() map[string][2]api.Type {
	wide := func(last api.Type) api.Type {
		return api.Type{Kind: api.Pair, Parts: append(repeat(integer(0), 100_000), last)}
	}
	return map[string][2]api.Type{
		"deep":   {refs(100_000, integer(0)), refs(100_000, integer(1))},
		"wide":   {wide(integer(0)), wide(boolean(0))},
		"shared": {shared(1000, integer(0)), shared(1000, boolean(0))},
		"ring":   {ring(0), ring(0, 0, 0, 1)},
		"tree":   {tree(14), pair(0, tree(13), pair(0, tree(12), pair(0, tree(11), tree(10))))},
	}
}

// TestSameGreat (P13.2, R1): types of very many nodes, in each place, are gone through to their last one.
func TestSameGreat(t *testing.T) {
	all := places()
	for name, put := range slotPlaces() {
		all[name] = put
	}
	for name, both := range great() {
		for where, put := range all {
			f, g := plain(), plain()
			put(&f, both[0])
			put(&g, both[1])
			a, b := classOf(single(), f), classOf(single(), g)
			if !class.Same(a, a) || !class.Same(b, b) || class.Same(a, b) || class.Same(b, a) {
				t.Errorf("%s as %s", name, where)
			}
		}
	}
}

// TestSameLists (P13.2): lists of any length are gone through to their ends.
func TestSameLists(t *testing.T) {
	for _, change := range []func(f *api.Func){
		func(f *api.Func) { f.Caps[99_999].Label = 1 },
		func(f *api.Func) { f.Code[99_999].A = 1 },
		func(f *api.Func) { f.Handlers[99_999].At = 1 },
		func(f *api.Func) { f.Points[99_999].Env = 1 },
		func(f *api.Func) { f.Points[99_999].Stack = []api.Type{{}} },
		func(f *api.Func) { f.Points[99_999].Slots = []api.Type{{}} },
		func(f *api.Func) { f.Regions[99_999].Join = 1 },
		func(f *api.Func) { f.Regions[99_999].Places = []int{0} },
	} {
		long := func() api.Func {
			return api.Func{Caps: make([]api.Type, 100_000), Code: make([]api.Ins, 100_000), Handlers: make([]api.Handler, 100_000), Points: make([]api.Point, 100_000), Regions: make([]api.Region, 100_000)}
		}
		f, g := long(), long()
		if !class.Same(classOf(single(), f), classOf(single(), g)) {
			t.Error("long lists")
		}
		change(&g)
		a, b := classOf(single(), f), classOf(single(), g)
		if class.Same(a, b) || class.Same(b, a) || class.Formed(a) {
			t.Error("the last one isn't seen")
		}
		many := classOf(single(), append(slices.Repeat([]api.Func{plain()}, 1000), g)...)
		other := classOf(single(), append(slices.Repeat([]api.Func{plain()}, 1000), f)...)
		if class.Same(many, other) || class.Formed(many) {
			t.Error("the last function isn't seen")
		}
	}
}
