package eval

import "palisade/api"

func integer(n int64) api.Value {
	return api.Value{Kind: api.Int, N: n}
}

func truth(holds bool) api.Value {
	if holds {
		return api.Value{Kind: api.Bool, N: 1}
	}
	return api.Value{Kind: api.Bool}
}

// do does what n does itself. The values are of the kinds that it needs.
func (r *run) do(n *node, names *named, first, second api.Value) {
	switch n.Kind {
	case api.EInt:
		r.give(integer(n.N))
	case api.EBool:
		r.give(truth(n.N == 1))
	case api.EVar:
		r.look(n, names)
	case api.EIf:
		r.choose(n, names, first.N == 1)
	case api.EFun:
		r.makeFun(n, names)
	case api.ECall:
		r.call(first, second)
	case api.EPair:
		r.build(api.Value{Kind: api.Pair, Parts: []api.Value{first, second}})
	case api.EFirst:
		r.give(first.Parts[0])
	case api.ESecond:
		r.give(first.Parts[1])
	case api.ENew:
		r.give(r.NewCell(n.Type, first))
	case api.EGet:
		r.get(first)
	case api.ESet:
		r.set(first, second)
	case api.EOut:
		r.tell(int(n.N), first.N)
	case api.ERaise:
		r.raise(first)
	case api.EBin:
		r.reckon(int(n.N), first.N, second.N)
	case api.ENot:
		r.give(truth(first.N == 0))
	}
}

func (r *run) look(n *node, names *named) {
	v, ok := names.find(n.Text)
	if !ok {
		r.Stop(api.Stuck)
		return
	}
	r.give(v)
}

func (r *run) choose(n *node, names *named, holds bool) {
	if holds {
		r.begin(n.parts[1], names)
		return
	}
	r.begin(n.parts[2], names)
}

func (r *run) makeFun(n *node, names *named) {
	captured, ok := names.all(n.caps)
	if !ok {
		r.Stop(api.Stuck)
		return
	}
	r.build(api.Value{Kind: api.Fun, N: n.number, Parts: captured})
}

// build gives a Pair or a Fun that is new.
func (r *run) build(v api.Value) {
	if r.Fits(v) {
		r.give(v)
	}
}

// call goes on within the function, where no other names have values than those that it has of its own.
func (r *run) call(fun, given api.Value) {
	f, ok := r.function(fun.N)
	if !ok || len(fun.Parts) != len(f.caps) {
		r.Stop(api.Stuck)
		return
	}
	var names *named
	for i, name := range f.caps {
		names = names.with(name, fun.Parts[i])
	}
	r.begin(f.parts[0], names.with(f.Text, fun).with(f.Arg, given))
}

func (r *run) get(ref api.Value) {
	if v, ok := r.Get(ref); ok {
		r.give(v)
	}
}

func (r *run) set(ref, v api.Value) {
	if r.Set(ref, v) {
		r.give(integer(0))
	}
}

func (r *run) tell(label int, n int64) {
	r.Tell(label, n)
	r.give(integer(0))
}

func (r *run) reckon(op int, a, b int64) {
	v, ok := Reckon(op, a, b)
	if !ok {
		r.raise(integer(0))
		return
	}
	r.give(v)
}
