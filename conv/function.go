package conv

import (
	"palisade/api"
	"palisade/free"
	"palisade/ir"
	"palisade/lattice"
	"palisade/ops"
	"palisade/types"
)

// program is what the functions of one program have alike, and those that were met so far: layer 8 numbers functions in the order in which they are met, each ahead of those within it.
type program struct {
	lattice api.Lattice
	bottom  int
	table   []free.Entry
	fns     []ir.Fn
}

// functions is the functions of an accepted program, however many, and of whatever size.
func functions(p api.Program) []ir.Fn {
	all := &program{lattice: p.Lattice, bottom: lattice.Bottom(p.Lattice), table: free.Table(p.Arg, p.Body)}
	all.fns = make([]ir.Fn, 1)
	main := all.begin(p.Param, p.Result, all.bottom, p.Exc, nil)
	all.fns[0] = main.end(p.Body, scope{}.with(p.Arg, p.Param, 0))
	return all.fns
}

// enter makes the function of an EFun, and those within it, and tells its number, and the slots of what it captures in the scope around it.
func (p *program) enter(e api.Expr, around scope, pc int) (int, []int) {
	k := len(p.fns)
	p.fns = append(p.fns, ir.Fn{})
	var args []int
	var caps []api.Type
	var within scope
	for i, name := range p.table[k-1].Caps {
		place := around.find(name)
		t := types.Raise(p.lattice, around.binds[place].Type, pc)
		args, caps = append(args, around.slots[place]), append(caps, t)
		within = within.with(name, t, 1+i)
	}
	f := p.begin(e.Type, e.Give, int(e.N), int(e.M), caps)
	within = f.self(e, within).with(e.Arg, e.Type, 0)
	p.fns[k] = f.end(e.Parts[0], within)
	return k, args
}

// own is t in memory of its own: raised by the bottom a type is as it was.
func (p *program) own(t api.Type) api.Type {
	return types.Raise(p.lattice, t, p.bottom)
}

// function is one that is being laid: nodes are put into the list nodes, which is that of a way of an EIf or ETry, while that is laid. What is gone isn't come to: there no node is laid, and no slot numbered.
type function struct {
	*program
	fn    ir.Fn
	nodes []ir.Node
	gone  bool
}

// begin is a function of which nothing is laid yet.
func (p *program) begin(param, result api.Type, heap, exc int, caps []api.Type) *function {
	f := &function{program: p, fn: ir.Fn{Param: p.own(param), Result: p.own(result), Heap: heap, Exc: exc, Caps: caps}}
	f.slot(param)
	for _, t := range caps {
		f.slot(t)
	}
	return f
}

// self lays the slot of the function's own name, if the Part needs it.
func (f *function) self(e api.Expr, s scope) scope {
	if e.Text == e.Arg || !free.Stands(e.Parts[0], e.Text) {
		return s
	}
	own := ir.Sig(f.lattice, f.fn)
	slot := f.slot(own)
	f.put(ir.Node{Op: ops.Self, Dst: slot, Env: f.bottom})
	return s.with(e.Text, own, slot)
}

// end lays the function's Part, and is the function then.
func (f *function) end(part api.Expr, s scope) ir.Fn {
	f.fn.Out = f.expr(part, s, f.bottom).slot
	f.fn.Body = f.nodes
	return f.fn
}

// slot numbers a slot of that type.
func (f *function) slot(t api.Type) int {
	if f.gone {
		return api.None
	}
	f.fn.Slots = append(f.fn.Slots, f.own(t))
	return len(f.fn.Slots) - 1
}

// put lays a node.
func (f *function) put(n ir.Node) {
	if !f.gone {
		f.nodes = append(f.nodes, n)
	}
}
