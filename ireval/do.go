package ireval

import (
	"palisade/api"
	"palisade/eval"
	"palisade/ir"
	"palisade/ops"
)

// What an Op may need of a slot, beside a value of one Kind.
const (
	nothing  = 0
	anything = -1
)

// needed is, of each Op, of which Kinds what stands in its A and its B must be.
var needed = [...][2]int{
	ops.Copy:   {anything},
	ops.Reckon: {api.Int, api.Int},
	ops.Not:    {api.Bool},
	ops.Pair:   {anything, anything},
	ops.First:  {api.Pair},
	ops.Second: {api.Pair},
	ops.Call:   {api.Fun, anything},
	ops.New:    {anything},
	ops.Get:    {api.Ref},
	ops.Set:    {api.Ref, anything},
	ops.Out:    {api.Int},
	ops.If:     {api.Bool},
	ops.Raise:  {api.Int},
}

// do does what n does. What it reads is of the Kinds that it needs.
func (r *run) do(f *frame, n *ir.Node, a, b api.Value) {
	switch n.Op {
	case ops.Int:
		f.put(n.Dst, api.Value{Kind: api.Int, N: n.N})
	case ops.Bool:
		f.put(n.Dst, api.Value{Kind: api.Bool, N: n.N})
	case ops.Copy:
		f.put(n.Dst, a)
	case ops.Reckon:
		r.reckon(f, n, a.N, b.N)
	case ops.Not:
		f.put(n.Dst, api.Value{Kind: api.Bool, N: 1 - a.N})
	case ops.Pair:
		r.build(f, n, api.Value{Kind: api.Pair, Parts: []api.Value{a, b}})
	case ops.First:
		f.put(n.Dst, a.Parts[0])
	case ops.Second:
		f.put(n.Dst, a.Parts[1])
	case ops.Close:
		r.makeFun(f, n)
	case ops.Self:
		f.put(n.Dst, f.fun)
	case ops.Call:
		r.call(n, a, b)
	case ops.New:
		f.put(n.Dst, r.NewCell(n.T, a))
	case ops.Get:
		r.get(f, n, a)
	case ops.Set:
		r.Set(a, b)
	case ops.Out:
		r.Tell(int(n.N), a.N)
	case ops.If:
		f.choose(n, a.N == 1)
	case ops.Try:
		f.begin(n.Body, n)
	case ops.Raise:
		r.raise(a)
	}
}

func (r *run) reckon(f *frame, n *ir.Node, a, b int64) {
	v, ok := eval.Reckon(int(n.N), a, b)
	if !ok {
		r.raise(api.Value{Kind: api.Int})
		return
	}
	f.put(n.Dst, v)
}

// build puts a Pair or a Fun that is new.
func (r *run) build(f *frame, n *ir.Node, v api.Value) {
	if r.Fits(v) {
		f.put(n.Dst, v)
	}
}

// makeFun asks how many Args there are ahead of reading them: there may be very many too many.
func (r *run) makeFun(f *frame, n *ir.Node) {
	if len(n.Args) != len(r.fns[n.N].Caps) {
		r.Stop(api.Stuck)
		return
	}
	captured, ok := f.readAll(n.Args)
	if !ok {
		r.Stop(api.Stuck)
		return
	}
	r.build(f, n, api.Value{Kind: api.Fun, N: n.N, Parts: captured})
}

func (r *run) call(n *ir.Node, fun, given api.Value) {
	if fun.N >= int64(len(r.fns)) || len(fun.Parts) != len(r.fns[fun.N].Caps) {
		r.Stop(api.Stuck)
		return
	}
	r.enter(fun, given, n.Dst)
}

func (r *run) get(f *frame, n *ir.Node, ref api.Value) {
	if v, ok := r.Get(ref); ok {
		f.put(n.Dst, v)
	}
}

func (f *frame) choose(n *ir.Node, holds bool) {
	if holds {
		f.begin(n.Body, nil)
		return
	}
	f.begin(n.Else, nil)
}
