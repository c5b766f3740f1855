package observe_test

import (
	"slices"
	"testing"

	"palisade/api"
	"palisade/verify"
)

// The labels of the chain.
const (
	low  = 0
	high = 1
)

// leak is a class that would tell low what only high may know, with a certificate that is right but for what it leaves out, and two beginnings that low sees as alike.
type leak struct {
	name    string
	funcs   []api.Func
	without gap
	trim    func(r *api.Region)
	spared  int
	turn    func(main *api.Func) // what is changed in the certificate as it is made
	args    [2]api.Value
	cells   []api.Cell
	seen    string // what low would see: other events, other ends or other views
}

// taking is a function that gives an Int of low and never raises.
func taking(param api.Type, code ...api.Ins) api.Func {
	return api.Func{Param: param, Result: intAt(low), Heap: low, Exc: none, Slots: 3, Code: code}
}

// raising lets f raise by that label.
func raising(f api.Func, label int) api.Func {
	f.Exc = label
	return f
}

// quiet lets f write, tell and call nothing below high.
func quiet(f api.Func) api.Func {
	f.Heap = high
	return f
}

// giving lets f give by that label.
func giving(f api.Func, label int) api.Func {
	f.Result.Label = label
	return f
}

func holding(f api.Func, captured api.Type) api.Func {
	f.Caps = []api.Type{captured}
	return f
}

func joined(parts ...[]api.Ins) []api.Ins {
	return slices.Concat(parts...)
}

func ins(all ...api.Ins) []api.Ins {
	return all
}

// choice goes the first way where the secret is less than 1, else the other one, and then on.
func choice(secret, one, other, behind []api.Ins) []api.Ins {
	begin := append(slices.Clone(secret), number(1), op(api.OpLess))
	second := len(begin) + 1 + len(one)
	if slices.Contains([]int{api.OpRaise, api.OpReturn}, one[len(one)-1].Op) {
		return joined(begin, ins(unless(int64(second))), one, other, behind)
	}
	jump := op(api.OpJump, int64(second+1+len(other)))
	return joined(begin, ins(unless(int64(second+1))), one, ins(jump), other, behind)
}

var (
	first   = op(api.OpFirst)
	second  = op(api.OpSecond)
	get     = op(api.OpGet)
	given   = load(0)
	numbers = [2]api.Value{integer(0), integer(1)}
	refs    = [2]api.Value{ref(0), ref(1)}
	five    = []api.Cell{cell(intAt(low), integer(5)), cell(intAt(low), integer(6))}
	secret  = intAt(high)
)

// class is the leak's, with the certificate that it would be accepted with.
func (k leak) class() api.Class {
	d := &drawer{without: k.without, trim: k.trim, spared: k.spared}
	d.certifies(k.funcs)
	if k.turn != nil {
		k.turn(&d.c.Funcs[0])
	}
	return d.c
}

// certifies has a class of these functions, with certificates.
func (d *drawer) certifies(funcs []api.Func) api.Class {
	d.c = api.Class{Lattice: chain(), Funcs: slices.Clone(funcs)}
	for k, f := range d.c.Funcs {
		d.c.Funcs[k].Points = make([]api.Point, len(f.Code))
	}
	// Which calls may raise is known only when there are points.
	d.again()
	d.again()
	return d.c
}

// questions are the two that are alike to low.
func (k leak) questions(c api.Class, cells []api.Cell) [2]question {
	limits := api.Limits{Fuel: 1000, Frames: 10, Cells: 10}
	return [2]question{{c, k.args[0], cells, limits}, {c, k.args[1], cells, limits}}
}

// told is what low sees to be unlike; where it would see something already as the runs begin, or a run doesn't end, that is told.
func told(q [2]question) string {
	if !q[0].fits() || !q[1].fits() || q[0].scene().view(low) != q[1].scene().view(low) {
		return "the beginnings"
	}
	one, other := q[0].run(), q[1].run()
	if !ended(one) || !ended(other) {
		return "no end"
	}
	return keeps(q[0], q[1], low, one, other)
}

// TestLeaks (P19.3): what low would see of a secret, each way by which it might go, if the class were accepted; it isn't.
func TestLeaks(t *testing.T) {
	for _, k := range leaks() {
		c := k.class()
		if got := told(k.questions(c, k.cells)); got != k.seen {
			t.Errorf("%s: low sees %q", k.name, got)
		}
		if _, _, e := verify.Check(c); e != api.ErrVerify {
			t.Errorf("%s: %v", k.name, e)
		}
	}
}

// hidden is the type with all labels high.
func hidden(t api.Type) api.Type {
	t.Label = high
	t.Parts = slices.Clone(t.Parts)
	for i, part := range t.Parts {
		t.Parts[i] = hidden(part)
	}
	if t.Kind == api.Fun {
		t.Heap, t.Exc = high, min(t.Exc, high)
		if t.Exc != none {
			t.Exc = high
		}
	}
	return t
}

// hiding is the function with all labels high.
func hiding(f api.Func) api.Func {
	f.Param, f.Result, f.Heap = hidden(f.Param), hidden(f.Result), high
	if f.Exc != none {
		f.Exc = high
	}
	f.Caps, f.Code = slices.Clone(f.Caps), slices.Clone(f.Code)
	for i, captured := range f.Caps {
		f.Caps[i] = hidden(captured)
	}
	for at, i := range f.Code {
		switch i.Op {
		case api.OpOut:
			f.Code[at].A = high
		case api.OpNew:
			f.Code[at].T = hidden(i.T)
		}
	}
	return f
}

// TestHidden (P19.3): the same classes with all labels high are accepted, and low sees none of it, but high does.
func TestHidden(t *testing.T) {
	for _, k := range leaks() {
		var funcs []api.Func
		for _, f := range k.funcs {
			funcs = append(funcs, hiding(f))
		}
		var cells []api.Cell
		for _, c := range k.cells {
			cells = append(cells, cell(hidden(c.Type), c.Value))
		}
		c := new(drawer).certifies(funcs)
		if at, place, e := verify.Check(c); e != api.OK {
			t.Errorf("%s: %v in %d at %d", k.name, e, at, place)
			continue
		}
		q := k.questions(c, cells)
		if got := told(q); got != "" {
			t.Errorf("%s: low sees %q", k.name, got)
		}
		if keeps(q[0], q[1], high, q[0].run(), q[1].run()) == "" {
			t.Errorf("%s: high sees nothing", k.name)
		}
	}
}

// TestOpen (P19.3): beginnings that low sees as unlike may end so, though all is accepted: events, ends and views are seen.
func TestOpen(t *testing.T) {
	open := intAt(low)
	for _, k := range []leak{
		{name: "result", funcs: []api.Func{taking(open, given, give)}, seen: "views"},
		{name: "raise", funcs: []api.Func{raising(taking(open, given, throw), low)}, seen: "views"},
		{name: "ends", funcs: []api.Func{raising(taking(open, choice(ins(given), ins(number(1), throw), nil, ins(number(1), give))...), low)}, seen: "ends"},
		{name: "events", funcs: []api.Func{taking(open, given, op(api.OpOut, low), number(1), give)}, seen: "events"},
		{name: "cells", funcs: []api.Func{taking(typed(api.Pair, low, open, refAt(low, low)), given, second, given, first, set, number(1), give)}, seen: "views", args: [2]api.Value{pair(integer(1), ref(0)), pair(integer(2), ref(0))}, cells: five},
	} {
		if k.cells == nil {
			k.args = numbers
		}
		c := new(drawer).certifies(k.funcs)
		_, _, e := verify.Check(c)
		q := k.questions(c, k.cells)
		if got := keeps(q[0], q[1], low, q[0].run(), q[1].run()); got != k.seen || e != api.OK {
			t.Errorf("%s: low sees %q, %v", k.name, got, e)
		}
	}
}
