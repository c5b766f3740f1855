package verify_test

import (
	"slices"

	"palisade/api"
	"palisade/flow"
	"palisade/lattice"
	"palisade/regions"
	"palisade/shape"
	"palisade/types"
	"palisade/value"
)

// What follows is the chapter's words once more, as plainly as may be.

func refCheck(c api.Class) answer {
	switch k, _, e := shape.Check(c); e {
	case api.ErrForm:
		return answer{-1, -1, api.ErrForm}
	case api.ErrVerify:
		return answer{k, -1, api.ErrVerify}
	}
	for k, f := range c.Funcs {
		for at := range f.Code {
			if at == 0 && !refBegins(c, f) || !refAccepts(c, k, at) {
				return answer{k, at, api.ErrVerify}
			}
		}
	}
	return answer{}
}

// refState is a stack and slots.
type refState struct{ stack, slots []api.Type }

func refFits(l api.Lattice, s refState, p api.Point) bool {
	fits := len(s.stack) == len(p.Stack)
	for i := 0; fits && i < len(s.stack); i++ {
		fits = types.Below(l, s.stack[i], p.Stack[i])
	}
	for i := 0; fits && i < len(s.slots); i++ {
		fits = p.Slots[i].Kind == 0 || types.Below(l, s.slots[i], p.Slots[i])
	}
	return fits
}

func refBegins(c api.Class, f api.Func) bool {
	slots := append(append([]api.Type{f.Param}, f.Caps...), make([]api.Type, f.Slots)...)
	return refFits(c.Lattice, refState{slots: slots[:f.Slots]}, f.Points[0])
}

func refCalls(c api.Class, k int) []bool {
	if k < 0 || k > len(c.Funcs)-1 {
		return nil
	}
	f := c.Funcs[k]
	var all []bool
	for at := range f.Code {
		if len(f.Code) != len(f.Points) {
			return nil
		}
		stack := f.Points[at].Stack
		raises := f.Code[at].Op == api.OpCall && len(stack) > 1
		if raises {
			below := stack[len(stack)-2]
			raises = below.Kind == api.Fun && below.Exc != none
		}
		all = append(all, raises)
	}
	return all
}

func refAccepts(c api.Class, k, at int) bool {
	l, f := c.Lattice, c.Funcs[k]
	e := refStep(c, k, at)
	if !e.ok {
		return false
	}
	for _, to := range refNext(f, at) {
		if !refFits(l, e.state, f.Points[to]) {
			return false
		}
	}
	if e.p != none {
		handler := flow.Handler(f, at)
		raised := refState{[]api.Type{{Kind: api.Int, Label: e.p}}, f.Points[at].Slots}
		switch {
		case handler != none && !refFits(l, raised, f.Points[handler]):
			return false
		case handler == none && (f.Exc == none || !lattice.Leq(l, e.p, f.Exc)):
			return false
		}
	}
	return e.k == none || refContained(c, k, at, e.k)
}

func refNext(f api.Func, at int) []int {
	to := int(f.Code[at].A)
	switch f.Code[at].Op {
	case api.OpRaise, api.OpReturn:
		return nil
	case api.OpJump:
		return []int{to}
	case api.OpUnless:
		return []int{at + 1, to}
	}
	return []int{at + 1}
}

func refContained(c api.Class, k, at, label int) bool {
	f := c.Funcs[k]
	i := slices.IndexFunc(f.Regions, func(r api.Region) bool { return r.At == at })
	if i < 0 || regions.Holds(f, refCalls(c, k), f.Regions[i]) != 0 {
		return false
	}
	for _, place := range f.Regions[i].Places {
		if !lattice.Leq(c.Lattice, label, f.Points[place].Env) {
			return false
		}
	}
	return true
}

// refEffect is what an instruction makes of its point's state, with K and P, or None, and whether all holds that is asked of it but for the points and the region.
type refEffect struct {
	state refState
	k, p  int
	ok    bool
}

// refStep goes by the list of instructions in the chapter, one after the other.
func refStep(c api.Class, k, at int) refEffect {
	l, f := c.Lattice, c.Funcs[k]
	ins, point := f.Code[at], f.Points[at]
	e, stack, slots := point.Env, slices.Clone(point.Stack), slices.Clone(point.Slots)
	made := refEffect{k: none, p: none, ok: true}
	need := func(holds bool) { made.ok = made.ok && holds }
	bottom := lattice.Bottom(l)
	join := func(labels ...int) int {
		all := bottom
		for _, label := range labels {
			all = lattice.Join(l, all, label)
		}
		return all
	}
	// pop answers a type of that Kind (0: of any), also where there is none.
	pop := func(kind int) api.Type {
		t := api.Type{Parts: make([]api.Type, 2)}
		need(len(stack) > 0)
		if len(stack) > 0 {
			top := stack[len(stack)-1]
			stack = stack[:len(stack)-1]
			need(kind == 0 || kind == top.Kind)
			if kind == 0 || kind == top.Kind {
				return top
			}
		}
		return t
	}
	var pushed []api.Type
	push := func(t api.Type, label int) { pushed = append(pushed, types.Raise(l, t, label)) }
	switch ins.Op {
	case api.OpInt:
		push(api.Type{Kind: api.Int, Label: bottom}, bottom)
	case api.OpBool:
		push(api.Type{Kind: api.Bool, Label: bottom}, bottom)
	case api.OpLoad:
		need(slots[ins.A].Kind != 0)
		push(slots[ins.A], bottom)
	case api.OpStore:
		slots[ins.A] = types.Raise(l, pop(0), e)
	case api.OpPop:
		pop(0)
	case api.OpAdd, api.OpSub, api.OpMul, api.OpDiv, api.OpMod, api.OpLess, api.OpSame:
		second := pop(api.Int)
		first := pop(api.Int)
		kind := map[bool]int{false: api.Int, true: api.Bool}[ins.Op == api.OpLess || ins.Op == api.OpSame]
		push(api.Type{Kind: kind, Label: join(first.Label, second.Label)}, bottom)
		if ins.Op == api.OpDiv || ins.Op == api.OpMod {
			made.k = join(second.Label, e)
			made.p = made.k
		}
	case api.OpNot:
		push(pop(api.Bool), bottom)
	case api.OpPair:
		second := pop(0)
		push(api.Type{Kind: api.Pair, Label: bottom, Parts: []api.Type{pop(0), second}}, bottom)
	case api.OpFirst, api.OpSecond:
		from := pop(api.Pair)
		push(from.Parts[ins.Op-api.OpFirst], from.Label)
	case api.OpClose:
		g := c.Funcs[ins.A]
		for i := len(g.Caps) - 1; i >= 0; i-- {
			need(types.Below(l, pop(0), g.Caps[i]))
		}
		push(value.TypeOf(l, g), bottom)
	case api.OpSelf:
		push(value.TypeOf(l, f), bottom)
	case api.OpCall:
		given := pop(0)
		called := pop(api.Fun)
		need(types.Below(l, given, called.Parts[0]))
		label := join(called.Label, e)
		need(lattice.Leq(l, label, called.Heap) && lattice.Leq(l, f.Heap, called.Heap))
		push(called.Parts[1], label)
		if called.Exc != none {
			made.k = join(called.Exc, label)
			made.p = made.k
		}
	case api.OpNew:
		need(types.Below(l, pop(0), ins.T))
		push(api.Type{Kind: api.Ref, Label: bottom, Parts: []api.Type{ins.T}}, bottom)
	case api.OpGet:
		from := pop(api.Ref)
		push(from.Parts[0], from.Label)
	case api.OpSet:
		given := types.Raise(l, pop(0), e)
		into := pop(api.Ref)
		holds := into.Parts[0]
		need(types.Below(l, given, holds))
		need(lattice.Leq(l, into.Label, holds.Label) && lattice.Leq(l, e, holds.Label) && lattice.Leq(l, f.Heap, holds.Label))
	case api.OpOut:
		told := pop(api.Int)
		to := int(ins.A)
		need(lattice.Leq(l, told.Label, to) && lattice.Leq(l, e, to) && lattice.Leq(l, f.Heap, to))
	case api.OpJump:
	case api.OpUnless:
		made.k = join(pop(api.Bool).Label, e)
	case api.OpRaise:
		made.p = join(pop(api.Int).Label, e)
	case api.OpReturn:
		given := types.Raise(l, pop(0), e)
		need(len(stack) == 0 && types.Below(l, given, f.Result))
	}
	for _, t := range pushed {
		stack = append(stack, types.Raise(l, t, e))
	}
	for i := range stack {
		if made.k != none {
			stack[i] = types.Raise(l, stack[i], made.k)
		}
	}
	made.state = refState{stack, slots}
	return made
}
