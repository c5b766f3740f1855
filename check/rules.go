package check

import (
	"palisade/api"
	"palisade/lattice"
)

// rule is T and X, as the rule of e's Kind says them. T isn't raised yet by what is behind e.
func (j judge) rule(e api.Expr, w where) (api.Type, int) {
	switch e.Kind {
	case api.EInt:
		return plain(api.Int, w.pc), api.None
	case api.EBool:
		return plain(api.Bool, w.pc), api.None
	case api.EVar:
		return j.name(e, w), api.None
	case api.ELet:
		return j.let(e, w)
	case api.EIf:
		return j.choice(e, w)
	case api.EFun:
		return j.fun(e, w)
	case api.ECall:
		return j.call(e, w)
	case api.EPair:
		return j.pair(e, w)
	case api.EFirst:
		return j.side(e, w, 0)
	case api.ESecond:
		return j.side(e, w, 1)
	case api.ENew:
		return j.cell(e, w)
	case api.EGet:
		return j.held(e, w)
	case api.ESet:
		return j.set(e, w)
	case api.EOut:
		return j.out(e, w)
	case api.ERaise:
		return j.raising(e, w)
	case api.ETry:
		return j.attempt(e, w)
	case api.ESeq:
		return j.seq(e, w)
	case api.EBin:
		return j.reckoned(e, w)
	default: // ENot: there is no other Kind in a formed expression
		part := j.need(api.Bool, e.Parts[0], w)
		return part.t, part.x
	}
}

// plain is an Int or a Bool.
func plain(kind, label int) api.Type {
	return api.Type{Kind: kind, Label: label}
}

func (j judge) let(e api.Expr, w where) (api.Type, int) {
	first := j.expr(e.Parts[0], w)
	second := j.expr(e.Parts[1], w.at(first.behind).with(e.Text, first.t))
	return second.t, j.join(first.x, second.x)
}

func (j judge) seq(e api.Expr, w where) (api.Type, int) {
	first := j.expr(e.Parts[0], w)
	second := j.expr(e.Parts[1], w.at(first.behind))
	return second.t, j.join(first.x, second.x)
}

func (j judge) choice(e api.Expr, w where) (api.Type, int) {
	asked := j.need(api.Bool, e.Parts[0], w)
	within := w.at(asked.t.Label)
	yes := j.expr(e.Parts[1], within)
	no := j.expr(e.Parts[2], within)
	t := j.either(e, yes.t, no.t)
	return j.raise(t, asked.t.Label), j.join(asked.x, yes.x, no.x)
}

func (j judge) attempt(e api.Expr, w where) (api.Type, int) {
	tried := j.expr(e.Parts[0], w)
	raised := plain(api.Int, tried.behind)
	done := j.expr(e.Parts[1], w.at(tried.behind).with(e.Text, raised))
	t := j.either(e, tried.t, done.t)
	return j.raise(t, tried.behind), done.x
}

// fun judges the Part as it is when the function is called, which may be wherever its bounds allow: what it captures carries the label of where it was made.
func (j judge) fun(e api.Expr, w where) (api.Type, int) {
	heap, exc := int(e.N), int(e.M)
	bottom := lattice.Bottom(j.lattice)
	own := api.Type{Kind: api.Fun, Label: bottom, Parts: []api.Type{e.Type, e.Give}, Heap: heap, Exc: exc}
	j.limit(e, own)
	names := &scope{[]Bind{{e.Text, own}, {e.Arg, e.Type}}, w.pc, w.names}
	part := j.expr(e.Parts[0], where{names, bottom, heap})
	j.fits(e.Parts[0], part.t, e.Give)
	if !mayRaise(j.lattice, part.x, exc) {
		panic(fault{e.At, api.ErrFlow})
	}
	return j.raise(own, w.pc), api.None
}

func (j judge) call(e api.Expr, w where) (api.Type, int) {
	f := j.need(api.Fun, e.Parts[0], w)
	arg := j.expr(e.Parts[1], w.at(f.behind))
	takes, gives := f.t.Parts[0], f.t.Parts[1]
	j.fits(e.Parts[1], arg.t, takes)
	label := j.join(f.t.Label, arg.behind)
	j.below(e, f.t.Heap, label, w.heap)
	x := j.join(f.x, arg.x)
	if f.t.Exc != api.None {
		x = j.join(x, f.t.Exc, label)
	}
	return j.raise(gives, label), x
}

func (j judge) pair(e api.Expr, w where) (api.Type, int) {
	first := j.expr(e.Parts[0], w)
	second := j.expr(e.Parts[1], w.at(first.behind))
	now := second.behind
	parts := []api.Type{j.raise(first.t, now), j.raise(second.t, now)}
	return api.Type{Kind: api.Pair, Label: now, Parts: parts}, j.join(first.x, second.x)
}

func (j judge) side(e api.Expr, w where, side int) (api.Type, int) {
	part := j.need(api.Pair, e.Parts[0], w)
	return j.raise(part.t.Parts[side], part.t.Label), part.x
}

func (j judge) cell(e api.Expr, w where) (api.Type, int) {
	part := j.expr(e.Parts[0], w)
	j.fits(e.Parts[0], part.t, e.Type)
	return api.Type{Kind: api.Ref, Label: part.behind, Parts: []api.Type{e.Type}}, part.x
}

func (j judge) held(e api.Expr, w where) (api.Type, int) {
	part := j.need(api.Ref, e.Parts[0], w)
	return j.raise(part.t.Parts[0], part.t.Label), part.x
}

func (j judge) set(e api.Expr, w where) (api.Type, int) {
	ref := j.need(api.Ref, e.Parts[0], w)
	part := j.expr(e.Parts[1], w.at(ref.behind))
	now, holds := part.behind, ref.t.Parts[0]
	j.fits(e.Parts[1], j.raise(part.t, now), holds)
	j.below(e, holds.Label, ref.t.Label, now, w.heap)
	return plain(api.Int, now), j.join(ref.x, part.x)
}

func (j judge) out(e api.Expr, w where) (api.Type, int) {
	part := j.need(api.Int, e.Parts[0], w)
	j.below(e, int(e.N), part.t.Label, part.behind, w.heap)
	return plain(api.Int, part.behind), part.x
}

func (j judge) raising(e api.Expr, w where) (api.Type, int) {
	part := j.need(api.Int, e.Parts[0], w)
	return e.Type, j.join(part.x, part.t.Label, part.behind)
}

func (j judge) reckoned(e api.Expr, w where) (api.Type, int) {
	first := j.need(api.Int, e.Parts[0], w)
	second := j.need(api.Int, e.Parts[1], w.at(first.behind))
	now, x := second.behind, j.join(first.x, second.x)
	t := plain(api.Int, j.join(first.t.Label, second.t.Label, now))
	switch e.N {
	case api.OpLess, api.OpSame:
		t.Kind = api.Bool
	case api.OpDiv, api.OpMod:
		x = j.join(x, second.t.Label, now)
	}
	return t, x
}
