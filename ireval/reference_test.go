package ireval_test

import (
	"palisade/api"
	"palisade/ir"
)

// reference is a run as the chapter's words have it: by recursion, with slots in maps, and panics for what goes up.
type reference struct {
	fns  []ir.Fn
	fuel int
	out  api.Outcome
}

// raised and ended are what goes up.
type raised struct{ value api.Value }
type ended struct{ how int }

// called is a function that runs.
type called struct {
	fun   api.Value
	slots map[int]api.Value
}

func (q question) refer() (o api.Outcome) {
	r := &reference{fns: q.fns, fuel: q.fuel}
	r.out.Heap = append(r.out.Heap, q.heap...)
	defer func() {
		switch up := recover().(type) {
		case raised:
			r.out.Kind, r.out.Value = api.Raised, up.value
		case ended:
			r.out.Kind = up.how
		case nil:
		default:
			panic(up)
		}
		o = r.out
	}()
	v := r.gives(fun(0), q.arg)
	r.out.Kind, r.out.Value = api.Returned, v
	return
}

func demand(holds bool) {
	if !holds {
		panic(ended{api.Stuck})
	}
}

// gives is what the function of a Fun gives.
func (r *reference) gives(f, given api.Value) api.Value {
	c := called{f, map[int]api.Value{0: given}}
	for i, v := range f.Parts {
		c.slots[1+i] = v
	}
	fn := r.fns[f.N]
	r.list(c, fn.Body)
	demand(fn.Out != none)
	return c.has(fn.Out, 0)
}

// has is the value of a slot, which must have one, of that Kind (0: any).
func (c called) has(slot, kind int) api.Value {
	v, ok := c.slots[slot]
	demand(ok && (kind == 0 || v.Kind == kind))
	return v
}

func (r *reference) list(c called, body []ir.Node) {
	for _, n := range body {
		if r.out.Steps == r.fuel {
			panic(ended{api.OutOfFuel})
		}
		r.out.Steps++
		if v := r.node(c, n); v.Kind != 0 {
			c.slots[n.Dst] = v
		}
	}
}

// node is what a node makes, if anything.
func (r *reference) node(c called, n ir.Node) api.Value {
	switch n.Op {
	case 1:
		return integer(n.N)
	case 2:
		return boolean(n.N)
	case 3:
		return c.has(n.A, 0)
	case 4:
		return reckoned(n.N, c.has(n.A, api.Int).N, c.has(n.B, api.Int).N)
	case 5:
		return boolean(1 - c.has(n.A, api.Bool).N)
	case 6:
		return bounded(pair(c.has(n.A, 0), c.has(n.B, 0)))
	case 7:
		return c.has(n.A, api.Pair).Parts[0]
	case 8:
		return c.has(n.A, api.Pair).Parts[1]
	case 9:
		demand(len(n.Args) == len(r.fns[n.N].Caps))
		made := fun(n.N)
		for _, slot := range n.Args {
			made.Parts = append(made.Parts, c.has(slot, 0))
		}
		return bounded(made)
	case 10:
		return c.fun
	case 11:
		f, given := c.has(n.A, api.Fun), c.has(n.B, 0)
		demand(f.N < int64(len(r.fns)) && len(f.Parts) == len(r.fns[f.N].Caps))
		return r.gives(f, given)
	case 12:
		r.out.Heap = append(r.out.Heap, api.Cell{Type: n.T, Value: c.has(n.A, 0)})
		return ref(int64(len(r.out.Heap) - 1))
	case 13:
		return r.held(c.has(n.A, api.Ref)).Value
	}
	r.does(c, n)
	return api.Value{}
}

// does is for the Ops that put nothing into Dst when they are over.
func (r *reference) does(c called, n ir.Node) {
	switch n.Op {
	case 14:
		to, v := c.has(n.A, api.Ref), c.has(n.B, 0)
		r.held(to).Value = v
	case 15:
		r.out.Trace = append(r.out.Trace, api.Event{Label: int(n.N), N: c.has(n.A, api.Int).N})
	case 16:
		if c.has(n.A, api.Bool).N == 1 {
			r.list(c, n.Body)
		} else {
			r.list(c, n.Else)
		}
	case 17:
		if up := r.tried(c, n.Body); up != nil {
			c.slots[n.Dst] = up.value
			r.list(c, n.Else)
		}
	case 18:
		panic(raised{c.has(n.A, api.Int)})
	}
}

func (r *reference) held(v api.Value) *api.Cell {
	demand(v.N < int64(len(r.out.Heap)))
	return &r.out.Heap[v.N]
}

func (r *reference) tried(c called, body []ir.Node) (up *raised) {
	defer func() {
		was := recover()
		if it, ok := was.(raised); ok {
			up = &it
		} else if was != nil {
			panic(was)
		}
	}()
	r.list(c, body)
	return nil
}

func bounded(v api.Value) api.Value {
	if count(v) > api.MaxValue {
		panic(ended{api.Exhausted})
	}
	return v
}

func reckoned(op, a, b int64) api.Value {
	if (op == api.OpDiv || op == api.OpMod) && b == 0 {
		panic(raised{integer(0)})
	}
	truth := map[bool]int64{true: 1}
	switch op {
	case api.OpAdd:
		return integer(a + b)
	case api.OpSub:
		return integer(a - b)
	case api.OpMul:
		return integer(a * b)
	case api.OpDiv:
		return integer(a / b)
	case api.OpMod:
		return integer(a % b)
	case api.OpLess:
		return boolean(truth[a < b])
	}
	return boolean(truth[a == b])
}
