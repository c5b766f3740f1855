package verify_test

import (
	"slices"

	"palisade/api"
	"palisade/flow"
	"palisade/lattice"
	"palisade/regions"
	"palisade/shape"
	"palisade/types"
	"palisade/value"
)

// What follows is the chapter's words once more, as plainly as may be.

func refCheck(c api.Class) answer {
	switch k, _, e := shape.Check(c); e {
	case api.ErrForm:
		return answer{-1, -1, api.ErrForm}
	case api.ErrVerify:
		return answer{k, -1, api.ErrVerify}
	}
	for k, f := range c.Funcs {
		for at := range f.Code {
			if at == 0 && !refBegins(c, f) || !refAccepts(c, k, at) {
				return answer{k, at, api.ErrVerify}
			}
		}
	}
	return answer{}
}

// refState is a stack and slots.
type refState struct{ stack, slots []api.Type }

func refFits(l api.Lattice, s refState, p api.Point) bool {
	fits := len(s.stack) == len(p.Stack)
	for i := 0; fits && i < len(s.stack); i++ {
		fits = types.Below(l, s.stack[i], p.Stack[i])
	}
	for i := 0; fits && i < len(s.slots); i++ {
		fits = p.Slots[i].Kind == 0 || types.Below(l, s.slots[i], p.Slots[i])
	}
	return fits
}

func refBegins(c api.Class, f api.Func) bool {
	slots := append(append([]api.Type{f.Param}, f.Caps...), make([]api.Type, f.Slots)...)
	return refFits(c.Lattice, refState{slots: slots[:f.Slots]}, f.Points[0])
}

func refCalls(c api.Class, k int) []bool {
	if k < 0 || k > len(c.Funcs)-1 {
		return nil
	}
	f := c.Funcs[k]
	var all []bool
	for at := range f.Code {
		if len(f.Code) != len(f.Points) {
			return nil
		}
		stack := f.Points[at].Stack
		raises := f.Code[at].Op == api.OpCall && len(stack) > 1
		if raises {
			below := stack[len(stack)-2]
			raises = below.Kind == api.Fun && below.Exc != none
		}
		all = append(all, raises)
	}
	return all
}

func refAccepts(c api.Class, k, at int) bool {
	l, f := c.Lattice, c.Funcs[k]
	e := refStep(c, k, at)
	if !e.ok {
		return false
	}
	for _, to := range refNext(f, at) {
		if !refFits(l, e.state, f.Points[to]) {
			return false
		}
	}
	if e.p != none {
		handler := flow.Handler(f, at)
		raised := refState{[]api.Type{{Kind: api.Int, Label: e.p}}, f.Points[at].Slots}
		switch {
		case handler != none && !refFits(l, raised, f.Points[handler]):
			return false
		case handler == none && (f.Exc == none || !lattice.Leq(l, e.p, f.Exc)):
			return false
		}
	}
	return e.k == none || refContained(c, k, at, e.k)
}

func refNext(f api.Func, at int) []int {
	to := int(f.Code[at].A)
	switch f.Code[at].Op {
	case api.OpRaise, api.OpReturn:
		return nil
	case api.OpJump:
		return []int{to}
	case api.OpUnless:
		return []int{at + 1, to}
	}
	return []int{at + 1}
}

func refContained(c api.Class, k, at, label int) bool {
	f := c.Funcs[k]
	i := slices.IndexFunc(f.Regions, func(r api.Region) bool { return r.At == at })
	if i < 0 || regions.Holds(f, refCalls(c, k), f.Regions[i]) != 0 {
		return false
	}
	for _, place := range f.Regions[i].Places {
		if !lattice.Leq(c.Lattice, label, f.Points[place].Env) {
			return false
		}
	}
	return true
}

// refEffect is what an instruction makes of its point's state, with K and P, or None, and whether all holds that is asked of it but for the points and the region.
type refEffect struct {
	state refState
	k, p  int
	ok    bool
}

// refStep goes by the list of instructions in the chapter, one after the other.
func refStep(c api.Class, k, at int) refEffect {
	f := c.Funcs[k]
	p := &refPlace{c: c, f: f, l: c.Lattice, i: f.Code[at], e: f.Points[at].Env}
	p.stack, p.slots = slices.Clone(f.Points[at].Stack), slices.Clone(f.Points[at].Slots)
	p.made = refEffect{k: none, p: none, ok: true}
	p.plain()
	p.funs()
	p.cells()
	p.ways()
	for _, t := range p.pushed {
		p.stack = append(p.stack, types.Raise(p.l, t, p.e))
	}
	for i := range p.stack {
		if p.made.k != none {
			p.stack[i] = types.Raise(p.l, p.stack[i], p.made.k)
		}
	}
	p.made.state = refState{p.stack, p.slots}
	return p.made
}

// refPlace is a place at work: what is left on its stack, what is pushed and isn't raised by E yet, and what is made of it.
type refPlace struct {
	c                    api.Class
	f                    api.Func
	l                    api.Lattice
	i                    api.Ins
	e                    int
	stack, slots, pushed []api.Type
	made                 refEffect
}

func (p *refPlace) need(holds bool) {
	p.made.ok = p.made.ok && holds
}

func (p *refPlace) join(labels ...int) int {
	all := lattice.Bottom(p.l)
	for _, label := range labels {
		all = lattice.Join(p.l, all, label)
	}
	return all
}

// leq tells whether all these labels are below the bound.
func (p *refPlace) leq(bound int, labels ...int) bool {
	return lattice.Leq(p.l, p.join(labels...), bound)
}

// pop answers a type of that Kind (0: of any), also where there is none.
func (p *refPlace) pop(kind int) api.Type {
	p.need(len(p.stack) > 0)
	if len(p.stack) > 0 {
		top := p.stack[len(p.stack)-1]
		p.stack = p.stack[:len(p.stack)-1]
		if kind == 0 || kind == top.Kind {
			return top
		}
		p.need(false)
	}
	return api.Type{Parts: make([]api.Type, 2)}
}

func (p *refPlace) push(t api.Type, labels ...int) {
	p.pushed = append(p.pushed, types.Raise(p.l, t, p.join(labels...)))
}

// plain does what Ints, Bools, Pairs and slots need.
func (p *refPlace) plain() {
	bottom := p.join()
	switch p.i.Op {
	case api.OpInt:
		p.push(api.Type{Kind: api.Int, Label: bottom})
	case api.OpBool:
		p.push(api.Type{Kind: api.Bool, Label: bottom})
	case api.OpLoad:
		p.need(p.slots[p.i.A].Kind != 0)
		p.push(p.slots[p.i.A])
	case api.OpStore:
		p.slots[p.i.A] = types.Raise(p.l, p.pop(0), p.e)
	case api.OpPop:
		p.pop(0)
	case api.OpAdd, api.OpSub, api.OpMul, api.OpDiv, api.OpMod:
		second := p.pop(api.Int)
		p.push(api.Type{Kind: api.Int, Label: p.join(p.pop(api.Int).Label, second.Label)})
		if p.i.Op == api.OpDiv || p.i.Op == api.OpMod {
			p.made.k = p.join(second.Label, p.e)
			p.made.p = p.made.k
		}
	case api.OpLess, api.OpSame:
		second := p.pop(api.Int)
		p.push(api.Type{Kind: api.Bool, Label: p.join(p.pop(api.Int).Label, second.Label)})
	case api.OpNot:
		p.push(p.pop(api.Bool))
	case api.OpPair:
		second := p.pop(0)
		p.push(api.Type{Kind: api.Pair, Label: bottom, Parts: []api.Type{p.pop(0), second}})
	case api.OpFirst, api.OpSecond:
		from := p.pop(api.Pair)
		p.push(from.Parts[p.i.Op-api.OpFirst], from.Label)
	}
}

func (p *refPlace) funs() {
	switch p.i.Op {
	case api.OpClose:
		g := p.c.Funcs[p.i.A]
		for i := len(g.Caps) - 1; i >= 0; i-- {
			p.need(types.Below(p.l, p.pop(0), g.Caps[i]))
		}
		p.push(value.TypeOf(p.l, g))
	case api.OpSelf:
		p.push(value.TypeOf(p.l, p.f))
	case api.OpCall:
		given := p.pop(0)
		called := p.pop(api.Fun)
		p.need(types.Below(p.l, given, called.Parts[0]) && p.leq(called.Heap, called.Label, p.e, p.f.Heap))
		p.push(called.Parts[1], called.Label, p.e)
		if called.Exc != none {
			p.made.k = p.join(called.Exc, called.Label, p.e)
			p.made.p = p.made.k
		}
	}
}

func (p *refPlace) cells() {
	switch p.i.Op {
	case api.OpNew:
		p.need(types.Below(p.l, p.pop(0), p.i.T))
		p.push(api.Type{Kind: api.Ref, Label: p.join(), Parts: []api.Type{p.i.T}})
	case api.OpGet:
		from := p.pop(api.Ref)
		p.push(from.Parts[0], from.Label)
	case api.OpSet:
		given := types.Raise(p.l, p.pop(0), p.e)
		into := p.pop(api.Ref)
		holds := into.Parts[0]
		p.need(types.Below(p.l, given, holds) && p.leq(holds.Label, into.Label, p.e, p.f.Heap))
	case api.OpOut:
		p.need(p.leq(int(p.i.A), p.pop(api.Int).Label, p.e, p.f.Heap))
	}
}

func (p *refPlace) ways() {
	switch p.i.Op {
	case api.OpUnless:
		p.made.k = p.join(p.pop(api.Bool).Label, p.e)
	case api.OpRaise:
		p.made.p = p.join(p.pop(api.Int).Label, p.e)
	case api.OpReturn:
		given := types.Raise(p.l, p.pop(0), p.e)
		p.need(len(p.stack) == 0 && types.Below(p.l, given, p.f.Result))
	}
}
