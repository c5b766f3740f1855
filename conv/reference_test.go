package conv_test

import (
	"slices"

	"palisade/api"
	"palisade/ir"
	"palisade/lattice"
	"palisade/types"
)

// node is an expression with all that the rules of layer 7 say of it where it stands, and its slot, once that is numbered; payload is that of what an ETry's first Part raises.
type node struct {
	api.Expr
	t             api.Type
	x, pc, now    int
	parts         []*node
	scope         []known // the names there
	number        int     // of an EFun
	caps          []known // and what it captures
	slot, payload int
}

// known is a name, its type, and the expression whose slot it has: in the function, of what is given and captured, none, but a number. An ETry's has the payload's.
type known struct {
	name  string
	t     api.Type
	of    *node
	fixed int
}

// slot is where the name's value stands.
func (k known) slot() int {
	if k.of == nil {
		return k.fixed
	}
	if k.of.Kind == api.ETry && k.name == k.of.Text && k.fixed < 0 {
		return k.of.payload
	}
	return k.of.place()
}

// reference is the chapter's words, written as three questions to an expression: is it come out of, which slots has it, which nodes; all of them asked of a tree in which each has its type and labels.
type reference struct {
	l   api.Lattice
	fns []ir.Fn
}

func (r *reference) least(labels ...int) int {
	least := none
	for _, a := range labels {
		least = lattice.Both(r.l, least, a)
	}
	return least
}

func (r *reference) up(t api.Type, labels ...int) api.Type {
	t.Label = r.least(append(labels, t.Label)...)
	return t
}

// behind is what is behind an expression.
func (r *reference) behind(n *node) int {
	return r.least(n.pc, n.x)
}

// tree is e with its types and labels; the functions in it are converted on the way.
func (r *reference) tree(scope []known, pc int, e api.Expr) *node {
	n := &node{Expr: e, pc: pc, now: pc, x: none, scope: scope, slot: -9, payload: -9}
	if e.Kind == api.EFun {
		r.function(n)
		return n
	}
	for i, part := range e.Parts {
		names, at := scope, n.now
		switch {
		case i == 1 && e.Kind == api.ELet:
			names = append(slices.Clone(scope), known{e.Text, n.parts[0].t, n.parts[0], 0})
		case i == 1 && e.Kind == api.ETry:
			names = append(slices.Clone(scope), known{e.Text, integer(n.now), n, -1})
		case i > 0 && e.Kind == api.EIf:
			at = n.parts[0].t.Label
		}
		p := r.tree(names, at, part)
		n.parts = append(n.parts, p)
		n.now, n.x = r.behind(p), r.least(n.x, p.x)
	}
	n.t = r.rule(n)
	n.t = r.up(n.t, n.pc, n.x)
	return n
}

// rule is the T of the rule of n's Kind; what the rule adds to X is added.
func (r *reference) rule(n *node) api.Type {
	part := func(i int) api.Type { return n.parts[i].t }
	switch n.Kind {
	case api.EInt, api.EBool:
		return api.Type{Kind: n.Kind, Label: n.pc}
	case api.EVar:
		return last(n.scope, n.Text).t
	case api.ELet, api.ESeq:
		return part(1)
	case api.EIf:
		both, _ := types.Join(r.l, part(1), part(2))
		return r.up(both, part(0).Label)
	case api.ETry:
		both, _ := types.Join(r.l, part(0), part(1))
		n.x = n.parts[1].x
		return r.up(both, r.behind(n.parts[0]))
	case api.ECall:
		label := r.least(part(0).Label, n.now)
		if part(0).Exc != none {
			n.x = r.least(n.x, part(0).Exc, label)
		}
		return r.up(part(0).Parts[1], label)
	case api.EPair:
		return pairOf(n.now, r.up(part(0), n.now), r.up(part(1), n.now))
	case api.EFirst, api.EGet:
		return r.up(part(0).Parts[0], part(0).Label)
	case api.ESecond:
		return r.up(part(0).Parts[1], part(0).Label)
	case api.ENew:
		return refOf(n.now, n.Type)
	case api.ESet, api.EOut:
		return integer(n.now)
	case api.ERaise:
		n.x = r.least(n.x, part(0).Label, n.now)
		return n.Type
	case api.EBin:
		label := r.least(part(0).Label, part(1).Label, n.now)
		if n.N == api.OpDiv || n.N == api.OpMod {
			n.x = r.least(n.x, part(1).Label, n.now)
		}
		if n.N >= api.OpLess {
			return boolean(label)
		}
		return integer(label)
	}
	return part(0)
}

// last is the last one of a name.
func last(scope []known, name string) known {
	return scope[lastPlace(scope, name)]
}

func lastPlace(scope []known, name string) int {
	found := -1
	for i, k := range scope {
		if k.name == name {
			found = i
		}
	}
	return found
}

// needs tells whether a name is free in e.
func needs(e api.Expr, name string) bool {
	if e.Kind == api.EVar && e.Text == name {
		return true
	}
	for i, part := range e.Parts {
		hidden := e.Kind == api.EFun && (name == e.Text || name == e.Arg) || i == 1 && (e.Kind == api.ELet || e.Kind == api.ETry) && name == e.Text
		if !hidden && needs(part, name) {
			return true
		}
	}
	return false
}

// function is the type of an EFun, and the function itself among all others.
func (r *reference) function(n *node) {
	bottom := lattice.Bottom(r.l)
	fun := funOf(bottom, n.Type, n.Give, int(n.N), int(n.M))
	n.t = r.up(fun, n.pc)
	n.number = len(r.fns)
	f := ir.Fn{Param: n.Type, Result: n.Give, Heap: int(n.N), Exc: int(n.M)}
	var scope []known
	for i, k := range n.scope {
		if needs(n.Expr, k.name) && lastPlace(n.scope, k.name) == i {
			n.caps = append(n.caps, k)
			f.Caps = append(f.Caps, r.up(k.t, n.pc))
			scope = append(scope, known{k.name, r.up(k.t, n.pc), nil, len(f.Caps)})
		}
	}
	scope = append(scope, known{n.Text, fun, nil, 1 + len(f.Caps)}, known{n.Arg, n.Type, nil, 0})
	r.fns = append(r.fns, f)
	var ahead []ir.Node
	var self []api.Type
	if n.Text != n.Arg && needs(n.Parts[0], n.Text) {
		ahead, self = []ir.Node{{Op: 10, Dst: 1 + len(f.Caps), Env: bottom}}, []api.Type{fun}
	}
	r.fns[n.number] = r.whole(f, self, ahead, r.tree(scope, bottom, n.Parts[0]))
}

// whole is a function with its slots, nodes and OUT; self and ahead are those of its own name.
func (r *reference) whole(f ir.Fn, self []api.Type, ahead []ir.Node, part *node) ir.Fn {
	f.Slots = slices.Concat([]api.Type{f.Param}, f.Caps, self)
	r.slots(part, &f.Slots)
	f.Body, f.Out = append(ahead, r.nodes(part)...), none
	if comesOut(part) {
		f.Out = part.place()
	}
	return f
}

// comesOut tells whether an expression is come out of.
func comesOut(n *node) bool {
	switch n.Kind {
	case api.ERaise:
		return false
	case api.EIf:
		return comesOut(n.parts[0]) && (comesOut(n.parts[1]) || comesOut(n.parts[2]))
	case api.ETry:
		return comesOut(n.parts[0]) || comesOut(n.parts[1])
	}
	return !slices.ContainsFunc(n.parts, func(p *node) bool { return !comesOut(p) })
}

// done is those Parts that are come to, of one whose Parts are always done.
func done(n *node) []*node {
	for i, p := range n.parts {
		if !comesOut(p) {
			return n.parts[:i+1]
		}
	}
	return n.parts
}

// place is an expression's slot.
func (n *node) place() int {
	if n.Kind == api.ELet || n.Kind == api.ESeq {
		return n.parts[1].place()
	}
	return n.slot
}

// slots numbers the slots of an expression, behind those that there are.
func (r *reference) slots(n *node, all *[]api.Type) {
	one := func(t api.Type) int {
		*all = append(*all, t)
		return len(*all) - 1
	}
	switch n.Kind {
	case api.EIf:
		if r.slots(n.parts[0], all); comesOut(n.parts[0]) {
			n.slot = one(n.t)
			r.slots(n.parts[1], all)
			r.slots(n.parts[2], all)
		}
		return
	case api.ETry:
		n.slot = one(n.t)
		r.slots(n.parts[0], all)
		n.payload = one(integer(r.behind(n.parts[0])))
		r.slots(n.parts[1], all)
		return
	}
	for _, p := range done(n) {
		r.slots(p, all)
	}
	if comesOut(n) && n.Kind != api.ELet && n.Kind != api.ESeq {
		n.slot = one(n.t)
	}
}

// nodes is the nodes of an expression, its slots numbered.
func (r *reference) nodes(n *node) []ir.Node {
	var all []ir.Node
	into := func(p *node) []ir.Node {
		made := r.nodes(p)
		if comesOut(p) {
			made = append(made, ir.Node{Op: 3, A: p.place(), Dst: n.slot, Env: r.behind(p)})
		}
		return made
	}
	if n.Kind == api.ETry {
		return []ir.Node{{Op: 17, Dst: n.payload, Env: n.pc, Body: into(n.parts[0]), Else: into(n.parts[1])}}
	}
	if n.Kind == api.EIf {
		if all = r.nodes(n.parts[0]); comesOut(n.parts[0]) {
			all = append(all, ir.Node{Op: 16, A: n.parts[0].place(), Env: r.behind(n.parts[0]), Body: into(n.parts[1]), Else: into(n.parts[2])})
		}
		return all
	}
	for _, p := range done(n) {
		all = append(all, r.nodes(p)...)
	}
	if len(n.parts) > 0 && slices.ContainsFunc(n.parts, func(p *node) bool { return !comesOut(p) }) {
		return all
	}
	return append(all, r.own(n)...)
}

// own is an expression's own nodes.
func (r *reference) own(n *node) []ir.Node {
	var a, b int
	if len(n.parts) > 0 {
		a = n.parts[0].place()
	}
	if len(n.parts) > 1 {
		b = n.parts[1].place()
	}
	made := ir.Node{Dst: n.slot, A: a, B: b, Env: n.now}
	switch n.Kind {
	case api.ELet, api.ESeq:
		return nil
	case api.EInt, api.EBool:
		made.Op, made.N = n.Kind, n.N
	case api.EVar:
		made.Op, made.A = 3, last(n.scope, n.Text).slot()
	case api.EBin:
		made.Op, made.N = 4, n.N
	case api.ENot:
		made.Op = 5
	case api.EPair:
		made.Op = 6
	case api.EFirst:
		made.Op = 7
	case api.ESecond:
		made.Op = 8
	case api.EFun:
		made = ir.Node{Op: 9, Dst: n.slot, N: int64(n.number), Env: n.pc}
		for _, k := range n.caps {
			made.Args = append(made.Args, k.slot())
		}
	case api.ECall:
		made.Op = 11
	case api.ENew:
		made.Op, made.T = 12, n.Type
	case api.EGet:
		made.Op = 13
	case api.ESet:
		return []ir.Node{{Op: 14, A: a, B: b, Env: n.now}, {Op: 1, Dst: n.slot, Env: n.now}}
	case api.EOut:
		return []ir.Node{{Op: 15, A: a, N: n.N, Env: n.now}, {Op: 1, Dst: n.slot, Env: n.now}}
	case api.ERaise:
		return []ir.Node{{Op: 18, A: a, Env: n.now}}
	}
	return []ir.Node{made}
}

// referenceFns is what an accepted program is converted to.
func referenceFns(p api.Program) []ir.Fn {
	bottom := lattice.Bottom(p.Lattice)
	r := &reference{l: p.Lattice}
	f := ir.Fn{Param: p.Param, Result: p.Result, Heap: bottom, Exc: p.Exc}
	r.fns = append(r.fns, f)
	body := r.tree([]known{{p.Arg, p.Param, nil, 0}}, bottom, p.Body)
	r.fns[0] = r.whole(f, nil, nil, body)
	return r.fns
}
