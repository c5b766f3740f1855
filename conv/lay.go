package conv

import (
	"palisade/api"
	"palisade/check"
	"palisade/ir"
	"palisade/lattice"
	"palisade/ops"
)

// opOf is the Op of the node of each Kind that has one, and is laid behind all its Parts.
var opOf = [...]int{
	api.EInt: ops.Int, api.EBool: ops.Bool, api.EVar: ops.Copy, api.ECall: ops.Call, api.EPair: ops.Pair,
	api.EFirst: ops.First, api.ESecond: ops.Second, api.ENew: ops.New, api.EGet: ops.Get, api.ESet: ops.Set,
	api.EOut: ops.Out, api.ERaise: ops.Raise, api.EBin: ops.Reckon, api.ENot: ops.Not,
}

// laid is what is known of an expression that is laid: its slot, which is None, if it isn't come out of, its type, and what is behind it.
type laid struct {
	slot   int
	t      api.Type
	behind int
}

// expr lays e. Also of what isn't come to the types are told, and the functions made: they have their numbers.
func (f *function) expr(e api.Expr, s scope, pc int) laid {
	t, x, _, _ := check.Judge(f.lattice, s.binds, pc, f.fn.Heap, e)
	slot := f.kind(e, s, pc, t)
	if f.gone {
		slot = api.None
	}
	return laid{slot, t, lattice.Both(f.lattice, pc, x)}
}

// kind lays an expression of the type t as its Kind asks, and tells its slot.
func (f *function) kind(e api.Expr, s scope, pc int, t api.Type) int {
	switch e.Kind {
	case api.ELet:
		first := f.expr(e.Parts[0], s, pc)
		return f.expr(e.Parts[1], s.with(e.Text, first.t, first.slot), first.behind).slot
	case api.ESeq:
		first := f.expr(e.Parts[0], s, pc)
		return f.expr(e.Parts[1], s, first.behind).slot
	case api.EIf:
		return f.choice(e, s, pc, t)
	case api.ETry:
		return f.attempt(e, s, pc, t)
	case api.EFun:
		return f.closure(e, s, pc, t)
	}
	return f.plain(e, s, pc, t)
}

func (f *function) choice(e api.Expr, s scope, pc int, t api.Type) int {
	asked := f.expr(e.Parts[0], s, pc)
	slot := f.slot(t)
	yes := f.way(e.Parts[1], s, asked.t.Label, slot)
	no := f.way(e.Parts[2], s, asked.t.Label, slot)
	f.put(ir.Node{Op: ops.If, A: asked.slot, Env: asked.behind, Body: yes.nodes, Else: no.nodes})
	f.gone = yes.gone && no.gone
	return slot
}

func (f *function) attempt(e api.Expr, s scope, pc int, t api.Type) int {
	slot := f.slot(t)
	tried := f.way(e.Parts[0], s, pc, slot)
	raised := api.Type{Kind: api.Int, Label: tried.behind}
	payload := f.slot(raised)
	done := f.way(e.Parts[1], s.with(e.Text, raised, payload), tried.behind, slot)
	f.put(ir.Node{Op: ops.Try, Dst: payload, Env: pc, Body: tried.nodes, Else: done.nodes})
	f.gone = tried.gone && done.gone
	return slot
}

// way is nodes that are laid within another one, whether they aren't come out of, and what is behind their expression.
type way struct {
	nodes  []ir.Node
	gone   bool
	behind int
}

// way lays an expression into a list of its own, and what it gives into a slot. Where it is gone ahead, it is so behind.
func (f *function) way(e api.Expr, s scope, pc, into int) way {
	nodes, gone := f.nodes, f.gone
	f.nodes = nil
	part := f.expr(e, s, pc)
	f.put(ir.Node{Op: ops.Copy, Dst: into, A: part.slot, Env: part.behind})
	made := way{f.nodes, f.gone, part.behind}
	f.nodes, f.gone = nodes, gone
	return made
}

// closure lays the node that makes a function. The Part isn't done there, so that it is told by PC that the node is come to.
func (f *function) closure(e api.Expr, s scope, pc int, t api.Type) int {
	k, args := f.enter(e, s, pc)
	slot := f.slot(t)
	f.put(ir.Node{Op: ops.Close, Dst: slot, N: int64(k), Env: pc, Args: args})
	return slot
}

// plain lays e's Parts, and then its own node. All fields of e that its Kind doesn't need are zero, so that N is the node's.
func (f *function) plain(e api.Expr, s scope, pc int, t api.Type) int {
	slots, now := f.parts(e.Parts, s, pc)
	n := ir.Node{Op: opOf[e.Kind], A: slots[0], B: slots[1], N: e.N, Env: now}
	switch e.Kind {
	case api.EVar:
		n.A = s.slots[s.find(e.Text)]
	case api.ENew:
		n.T = f.own(e.Type)
	case api.ERaise:
		f.put(n)
		f.gone = true
		return api.None
	case api.ESet, api.EOut:
		f.put(n)
		n = ir.Node{Op: ops.Int, Env: now}
	}
	n.Dst = f.slot(t)
	f.put(n)
	return n.Dst
}

// parts lays at most two Parts from the left, and tells their slots, and what is behind the last one.
func (f *function) parts(parts []api.Expr, s scope, pc int) ([2]int, int) {
	var slots [2]int
	for i, part := range parts {
		one := f.expr(part, s, pc)
		slots[i], pc = one.slot, one.behind
	}
	return slots, pc
}
