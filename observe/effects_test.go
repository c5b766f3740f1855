package observe_test

import (
	"slices"

	"palisade/api"
	"palisade/lattice"
	"palisade/types"
	"palisade/value"
)

// What follows is what instructions make of types, as layer 17 has it, but for one label that may be left out: by that classes are drawn that it accepts, or would, if it didn't ask for that label.

// gap is a label that is left out: of that Op, the so-manieth that it asks for. The zero gap is none.
type gap struct{ op, number int }

// state is a stack and slots.
type state struct{ stack, slots []api.Type }

func nextOf(f api.Func, at int) []int {
	to := int(f.Code[at].A)
	switch f.Code[at].Op {
	case api.OpRaise, api.OpReturn:
		return nil
	case api.OpJump:
		return []int{to}
	case api.OpUnless:
		return []int{at + 1, to}
	}
	return []int{at + 1}
}

// effect is what an instruction makes of its point's state, with K and P, or None, and whether all holds that is asked of it but for the points and the region.
type effect struct {
	state state
	k, p  int
	ok    bool
}

// effectOf goes by the list of instructions in the chapter, one after the other.
func effectOf(c api.Class, k, at int, without gap) effect {
	f := c.Funcs[k]
	p := &point{c: c, f: f, l: c.Lattice, i: f.Code[at], e: f.Points[at].Env, without: without}
	p.stack, p.slots = slices.Clone(f.Points[at].Stack), slices.Clone(f.Points[at].Slots)
	p.made = effect{k: none, p: none, ok: true}
	p.plain()
	p.funs()
	p.cells()
	p.ways()
	behind, pushed := p.but(p.join(p.made.k)), p.but(p.e)
	for _, t := range p.pushed {
		p.stack = append(p.stack, types.Raise(p.l, t, pushed))
	}
	for i, t := range p.stack {
		p.stack[i] = types.Raise(p.l, t, behind)
	}
	p.made.state = state{p.stack, p.slots}
	return p.made
}

// point is a place at work: what is left on its stack, what is pushed and isn't raised by E yet, and what is made of it.
type point struct {
	c                    api.Class
	f                    api.Func
	l                    api.Lattice
	i                    api.Ins
	e                    int
	stack, slots, pushed []api.Type
	made                 effect
	without              gap
	asked                int
}

// but is a label that the Op asks for; the bottom, where it is left out.
func (p *point) but(label int) int {
	if p.asked++; p.without == (gap{p.i.Op, p.asked}) {
		return p.join()
	}
	return label
}

// butLabel is a type whose Label may be left out.
func (p *point) butLabel(t api.Type) api.Type {
	t.Label = p.but(t.Label)
	return t
}

func (p *point) need(holds bool) {
	p.made.ok = p.made.ok && holds
}

func (p *point) join(labels ...int) int {
	all := lattice.Bottom(p.l)
	for _, label := range labels {
		all = lattice.Both(p.l, all, label)
	}
	return all
}

// leq tells whether all these labels are below the bound.
func (p *point) leq(bound int, labels ...int) bool {
	return lattice.Leq(p.l, p.join(labels...), bound)
}

// pop answers a type of that Kind (0: of any), also where there is none.
func (p *point) pop(kind int) api.Type {
	p.need(len(p.stack) > 0)
	if len(p.stack) > 0 {
		top := p.stack[len(p.stack)-1]
		p.stack = p.stack[:len(p.stack)-1]
		if kind == 0 || kind == top.Kind {
			return top
		}
		p.need(false)
	}
	return api.Type{Parts: make([]api.Type, 2)}
}

func (p *point) push(t api.Type, labels ...int) {
	p.pushed = append(p.pushed, types.Raise(p.l, t, p.join(labels...)))
}

// plain does what Ints, Bools, Pairs and slots need.
func (p *point) plain() {
	bottom := p.join()
	switch p.i.Op {
	case api.OpInt:
		p.push(api.Type{Kind: api.Int, Label: bottom})
	case api.OpBool:
		p.push(api.Type{Kind: api.Bool, Label: bottom})
	case api.OpLoad:
		p.need(p.slots[p.i.A].Kind != 0)
		p.push(p.slots[p.i.A])
	case api.OpStore:
		p.slots[p.i.A] = types.Raise(p.l, p.pop(0), p.but(p.e))
	case api.OpPop:
		p.pop(0)
	case api.OpAdd, api.OpSub, api.OpMul, api.OpDiv, api.OpMod:
		second := p.pop(api.Int)
		p.push(api.Type{Kind: api.Int, Label: p.join(p.but(p.pop(api.Int).Label), p.but(second.Label))})
		if p.i.Op == api.OpDiv || p.i.Op == api.OpMod {
			p.made.k = p.join(p.but(second.Label), p.but(p.e))
			p.made.p = p.made.k
		}
	case api.OpLess, api.OpSame:
		second := p.pop(api.Int)
		p.push(api.Type{Kind: api.Bool, Label: p.join(p.but(p.pop(api.Int).Label), p.but(second.Label))})
	case api.OpNot:
		p.push(p.pop(api.Bool))
	case api.OpPair:
		second := p.pop(0)
		p.push(api.Type{Kind: api.Pair, Label: bottom, Parts: []api.Type{p.pop(0), second}})
	case api.OpFirst, api.OpSecond:
		from := p.pop(api.Pair)
		p.push(from.Parts[p.i.Op-api.OpFirst], p.but(from.Label))
	}
}

func (p *point) funs() {
	switch p.i.Op {
	case api.OpClose:
		g := p.c.Funcs[p.i.A]
		for i := len(g.Caps) - 1; i >= 0; i-- {
			p.need(types.Below(p.l, p.butLabel(p.pop(0)), g.Caps[i]))
		}
		p.push(value.TypeOf(p.l, g))
	case api.OpSelf:
		p.push(value.TypeOf(p.l, p.f))
	case api.OpCall:
		given := p.pop(0)
		called := p.pop(api.Fun)
		p.need(types.Below(p.l, p.butLabel(given), called.Parts[0]) && p.leq(called.Heap, p.but(called.Label), p.but(p.e), p.but(p.f.Heap)))
		p.push(called.Parts[1], p.but(called.Label), p.but(p.e))
		if called.Exc != none {
			p.made.k = p.join(p.but(called.Exc), p.but(called.Label), p.but(p.e))
			p.made.p = p.made.k
		}
	}
}

func (p *point) cells() {
	switch p.i.Op {
	case api.OpNew:
		p.need(types.Below(p.l, p.butLabel(p.pop(0)), p.i.T))
		p.push(api.Type{Kind: api.Ref, Label: p.join(), Parts: []api.Type{p.i.T}})
	case api.OpGet:
		from := p.pop(api.Ref)
		p.push(from.Parts[0], p.but(from.Label))
	case api.OpSet:
		given := types.Raise(p.l, p.butLabel(p.pop(0)), p.but(p.e))
		into := p.pop(api.Ref)
		holds := into.Parts[0]
		p.need(types.Below(p.l, given, holds) && p.leq(holds.Label, p.but(into.Label), p.but(p.e), p.but(p.f.Heap)))
	case api.OpOut:
		p.need(p.leq(int(p.i.A), p.but(p.pop(api.Int).Label), p.but(p.e), p.but(p.f.Heap)))
	}
}

func (p *point) ways() {
	switch p.i.Op {
	case api.OpUnless:
		p.made.k = p.join(p.but(p.pop(api.Bool).Label), p.but(p.e))
	case api.OpRaise:
		p.made.p = p.join(p.but(p.pop(api.Int).Label), p.but(p.e))
	case api.OpReturn:
		given := types.Raise(p.l, p.butLabel(p.pop(0)), p.but(p.e))
		p.need(len(p.stack) == 0 && types.Below(p.l, given, p.f.Result))
	}
}
