package verify_test

import (
	"fmt"
	"slices"
	"testing"

	"palisade/api"
	"palisade/types"
)

// tried is the place of a trial's function that is asked.
const tried = 2

// trial is one place of a function of sets. What stands around it is accepted, whatever the trial is, so that the place alone is to blame.
type trial struct {
	ins          api.Ins
	env          int
	stack, slots []api.Type
	heap, exc    int
	param        api.Type
	result       api.Type
	caps         []api.Type
	others       []api.Func
	// behind is the state of the next place's point.
	behind refState
	// handler is the state of the handler's point, if there is one.
	handler *refState
	// regions are those of the function; last is the Env of the last of all places, those ahead of it have the top.
	regions []api.Region
	last    int
}

// trying is a trial with little in it that could be refused: the least Heap, the greatest Exc, a region for a K.
func trying(ins api.Ins, env int, stack ...api.Type) trial {
	return trial{
		ins: ins, env: env, stack: stack, slots: list(integer(lA)),
		heap: lO, exc: lAB, param: integer(lB), result: integer(lAB), last: lAB,
	}
}

func (x trial) with(change func(x *trial)) trial {
	x.slots, x.others = slices.Clone(x.slots), slices.Clone(x.others)
	change(&x)
	return x
}

// cleared is places that take a state off, whatever it is, and return.
func cleared(s refState) ([]api.Ins, []api.Point) {
	var code []api.Ins
	var points []api.Point
	for n := len(s.stack); n > 0; n-- {
		code = append(code, op(api.OpPop))
		points = append(points, api.Point{Stack: s.stack[:n], Slots: s.slots, Env: lAB})
	}
	code = append(code, op(api.OpInt), op(api.OpReturn))
	return code, append(points, api.Point{Slots: s.slots, Env: lAB}, api.Point{Stack: list(integer(lAB)), Slots: s.slots, Env: lAB})
}

// class has the trial's function ahead of the others.
func (x trial) class() api.Class {
	empty := make([]api.Type, len(x.slots))
	f := api.Func{
		Param: x.param, Result: x.result, Caps: x.caps, Heap: x.heap, Exc: x.exc, Slots: len(x.slots), Regions: x.regions,
		Code:   []api.Ins{op(api.OpInt), op(api.OpReturn), x.ins},
		Points: []api.Point{{Slots: empty, Env: lO}, {Stack: list(integer(lO)), Slots: empty, Env: lO}, {Stack: x.stack, Slots: x.slots, Env: x.env}},
	}
	if !types.Below(sets(), integer(lO), x.result) {
		f.Param, f.Code[0] = x.result, op(api.OpLoad)
		f.Points[0].Slots = append(list(x.result), empty[1:]...)
		f.Points[1].Stack = list(x.result)
	}
	code, points := cleared(x.behind)
	if x.result.Kind == api.Int && x.result.Label == lAB {
		f.Code, f.Points = append(f.Code, code...), append(f.Points, points...)
	}
	if x.handler != nil {
		f.Handlers = []api.Handler{{From: tried, To: tried + 1, At: len(f.Code)}}
		code, points := cleared(*x.handler)
		f.Code, f.Points = append(f.Code, code...), append(f.Points, points...)
	}
	if len(f.Points) > tried+1 {
		f.Points[len(f.Points)-1].Env = x.last
	}
	if f.Regions == nil {
		f.Regions = []api.Region{{At: tried, Join: none, Places: span(tried+1, len(f.Code)-1)}}
	}
	return classOf(sets(), append([]api.Func{f}, x.others...)...)
}

// is asks whether the trial is accepted; if not, its place is told.
func (x trial) is(t *testing.T, name string, ok bool) {
	t.Helper()
	want := refusedAt(0, tried)
	if ok {
		want = accepted
	}
	asks(t, name, x.class(), want)
}

// effect is what a trial's instruction makes: a state, and K and P, or None.
type effect struct {
	stack, slots []api.Type
	k, p         int
}

// pushes is the effect of what leaves the slots alone and doesn't branch.
func (x trial) pushes(stack ...api.Type) effect {
	return effect{stack, x.slots, none, none}
}

func relabelled(t api.Type, label int) api.Type {
	t.Label = label
	return t
}

func replaced(all []api.Type, i int, t api.Type) []api.Type {
	all = slices.Clone(all)
	all[i] = t
	return all
}

func leq(a, b int) bool {
	return sets().Order[a][b]
}

// does asks that the trial is accepted, and that it makes just that.
func (x trial) does(t *testing.T, name string, want effect) {
	t.Helper()
	x.behind = refState{want.stack, want.slots}
	x.is(t, name, true)
	goesOn := !slices.Contains([]int{api.OpRaise, api.OpReturn}, x.ins.Op)
	if goesOn {
		x.makes(t, name)
	}
	x.hangs(t, name, want.k)
	x.throws(t, name, want.p)
}

// variants are types of all Kinds, and t with another label, Heap or Exc anywhere in it.
func variants(t api.Type) []api.Type {
	all := list(integer(lAB), boolean(lAB), ref(lAB, integer(lA)), pair(lAB, integer(lAB), boolean(lAB)), fun(lAB, integer(lO), integer(lAB), lO, lAB))
	for _, label := range labels {
		other := t
		other.Label = label
		all = append(all, other)
		if t.Kind == api.Fun {
			other = t
			other.Heap = label
			all = append(all, other)
			other = t
			other.Exc = label
			all = append(all, other)
			other.Exc = none
			all = append(all, other)
		}
	}
	for i, part := range t.Parts {
		for _, part := range variants(part) {
			other := t
			other.Parts = replaced(t.Parts, i, part)
			all = append(all, other)
		}
	}
	return all
}

// makes asks that what the trial has behind it is just what its instruction makes: nothing less is accepted there.
func (x trial) makes(t *testing.T, name string) {
	t.Helper()
	made := x.behind
	put := func(stack, slots []api.Type) trial {
		x.behind = refState{stack, slots}
		return x
	}
	for i, part := range made.stack {
		for _, other := range variants(part) {
			if types.Formed(sets(), other) {
				put(replaced(made.stack, i, other), made.slots).is(t, fmt.Sprint(name, ", on the stack at ", i, " ", other), types.Below(sets(), part, other))
			}
		}
	}
	for i, part := range made.slots {
		put(made.stack, replaced(made.slots, i, api.Type{})).is(t, fmt.Sprint(name, ", without the slot ", i), true)
		for _, other := range variants(part) {
			if types.Formed(sets(), other) {
				put(made.stack, replaced(made.slots, i, other)).is(t, fmt.Sprint(name, ", in the slot ", i, " ", other), types.Below(sets(), part, other))
			}
		}
	}
	if len(made.stack) > 0 {
		put(made.stack[1:], made.slots).is(t, name+", one less", false)
		put(made.stack[:len(made.stack)-1], made.slots).is(t, name+", without the top", false)
	}
	if len(made.stack) < api.MaxStack {
		put(append(slices.Clone(made.stack), integer(lAB)), made.slots).is(t, name+", one more", false)
	}
}

// hangs asks that the trial's K is that one: there must be a region, and its Places' Env must be above it.
func (x trial) hangs(t *testing.T, name string, k int) {
	t.Helper()
	for _, last := range labels {
		x.last = last
		x.is(t, fmt.Sprint(name, ", the Env ", last, " at the end"), k == none || leq(k, last))
	}
	x.last, x.regions = lAB, []api.Region{}
	x.is(t, name+", without a region", k == none)
}

// throws asks that the trial's P is that one: Exc or the handler's point must be above it.
func (x trial) throws(t *testing.T, name string, p int) {
	t.Helper()
	for _, exc := range append(labels, none) {
		x.exc = exc
		x.is(t, fmt.Sprint(name, ", the Exc ", exc), p == none || exc != none && leq(p, exc))
	}
	for _, label := range labels {
		caught := x.with(func(x *trial) {
			x.exc, x.handler = none, &refState{list(integer(label)), x.slots}
		})
		caught.is(t, fmt.Sprint(name, ", handled as ", label), p == none || leq(p, label))
		caught.handler.stack = list(boolean(lAB))
		caught.is(t, name+", handled as a Bool", p == none)
		caught.handler.stack = list(integer(lAB), integer(lAB))
		caught.is(t, name+", handled as two", p == none)
		caught.handler.stack = nil
		caught.is(t, name+", handled as nothing", p == none)
	}
	for i, slot := range x.slots {
		for _, label := range labels {
			caught := x.with(func(x *trial) {
				x.exc, x.handler = none, &refState{list(integer(lAB)), x.slots}
			})
			caught.handler.slots = replaced(x.slots, i, relabelled(integer(label), label))
			below := slot.Kind == api.Int && leq(slot.Label, label)
			caught.is(t, fmt.Sprint(name, ", handled with the slot ", i, " as ", label), p == none || below)
			caught.handler.slots = replaced(x.slots, i, api.Type{})
			caught.is(t, fmt.Sprint(name, ", handled without the slot ", i), true)
		}
	}
}

// refused asks that the trial isn't accepted, whatever stands behind it.
func (x trial) refused(t *testing.T, name string) {
	t.Helper()
	left := []int{0, 1, 2, 3}
	tops := list(integer(lAB), boolean(lAB), pair(lAB, integer(lAB), integer(lAB)), ref(lAB, integer(lA)), fun(lAB, integer(lO), integer(lAB), lO, lAB))
	for _, keeps := range left {
		if keeps > len(x.stack) {
			break
		}
		stack := slices.Clone(x.stack[:keeps])
		for i := range stack {
			stack[i].Label = lAB
		}
		x.behind = refState{stack, make([]api.Type, len(x.slots))}
		x.is(t, fmt.Sprint(name, ", ", keeps, " left"), false)
		for _, top := range tops {
			x.behind.stack = append(slices.Clone(stack), top)
			x.is(t, fmt.Sprint(name, ", a ", top.Kind, " on ", keeps), false)
		}
	}
}
