package check

import (
	"palisade/api"
	"palisade/lattice"
	"palisade/types"
)

// fault is what goes up from where a rule isn't kept: the place, and the error.
type fault struct {
	at  int
	err api.Errno
}

// judge is what all judgements of one call have alike.
type judge struct {
	lattice api.Lattice
}

// where is where an expression stands: the names there, and the labels PC and HEAP.
type where struct {
	names    *scope
	pc, heap int
}

// scope is names, of which the last one counts; all that stand further out are raised by a label, if it isn't None. That is done where a name is looked up: a function's body needs few of the names around it.
type scope struct {
	binds  []Bind
	raised int
	outer  *scope
}

// given is what a judgement gives: T, X, and what is behind the expression.
type given struct {
	t         api.Type
	x, behind int
}

// judged is the judgement of e, all of which is formed; or the place and the error of the fault that went up.
func judged(l api.Lattice, e api.Expr, w where) (t api.Type, x, at int, err api.Errno) {
	defer func() {
		up := recover()
		if up == nil {
			return
		}
		f, ok := up.(fault)
		if !ok {
			panic(up)
		}
		x, at, err = api.None, f.at, f.err
	}()
	g := judge{l}.expr(e, w)
	return g.t, g.x, 0, api.OK
}

// expr is the judgement of e: what its rule says, and what is alike in all rules.
func (j judge) expr(e api.Expr, w where) given {
	t, x := j.rule(e, w)
	j.limit(e, t)
	behind := j.join(w.pc, x)
	return given{j.raise(t, behind), x, behind}
}

// limit refuses a type that is too great, which one that was made of formed ones may be.
func (j judge) limit(e api.Expr, t api.Type) {
	if !types.Formed(j.lattice, t) {
		panic(fault{e.At, api.ErrLimit})
	}
}

// need is the judgement of a Part that must be of that Kind.
func (j judge) need(kind int, part api.Expr, w where) given {
	g := j.expr(part, w)
	if g.t.Kind != kind {
		panic(fault{part.At, api.ErrType})
	}
	return g
}

// fits refuses a Part's type that doesn't fit.
func (j judge) fits(part api.Expr, t, u api.Type) {
	if err := Fits(j.lattice, t, u); err != api.OK {
		panic(fault{part.At, err})
	}
}

// below refuses labels of which one isn't below the bound.
func (j judge) below(e api.Expr, bound int, labels ...int) {
	for _, a := range labels {
		if !lattice.Leq(j.lattice, a, bound) {
			panic(fault{e.At, api.ErrFlow})
		}
	}
}

// join is the Both of all these: the least label above those that aren't None.
func (j judge) join(labels ...int) int {
	least := api.None
	for _, a := range labels {
		least = lattice.Both(j.lattice, least, a)
	}
	return least
}

func (j judge) raise(t api.Type, label int) api.Type {
	return types.Raise(j.lattice, t, label)
}

// either is the join of the types of e's two ways.
func (j judge) either(e api.Expr, s, t api.Type) api.Type {
	join, ok := types.Join(j.lattice, s, t)
	if !ok {
		panic(fault{e.At, api.ErrType})
	}
	return join
}

// at is the same place behind something, which the label tells.
func (w where) at(pc int) where {
	w.pc = pc
	return w
}

// with is the same place with a name behind all others.
func (w where) with(name string, t api.Type) where {
	w.names = &scope{[]Bind{{name, t}}, api.None, w.names}
	return w
}

// name is the type of e's name, in the scopes from within.
func (j judge) name(e api.Expr, w where) api.Type {
	raised := w.pc
	for s := w.names; s != nil; s = s.outer {
		for i := len(s.binds) - 1; i >= 0; i-- {
			if s.binds[i].Name == e.Text {
				return j.raise(s.binds[i].Type, raised)
			}
		}
		raised = j.join(raised, s.raised)
	}
	panic(fault{e.At, api.ErrType})
}
