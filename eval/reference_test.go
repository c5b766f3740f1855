package eval_test

import (
	"palisade/api"
	"palisade/free"
	"palisade/value"
)

// reference is a run as the chapter's words have it: by recursion, with names in lists, numbers counted anew wherever they are needed, and panics for what goes up.
type reference struct {
	funs []numbered
	caps []free.Entry
	fuel int
	out  api.Outcome
}

// numbered is a function, and how many stand ahead of it.
type numbered struct {
	fun   api.Expr
	ahead int
}

type bound struct {
	name  string
	value api.Value
}

// raised and ended are what goes up.
type raised struct{ value api.Value }
type ended struct{ how int }

func countFuns(e api.Expr) int {
	n := 0
	if e.Kind == api.EFun {
		n = 1
	}
	for _, part := range e.Parts {
		n += countFuns(part)
	}
	return n
}

// listFuns adds e's functions, of which so many stand ahead.
func (r *reference) listFuns(e api.Expr, ahead int) {
	if e.Kind == api.EFun {
		r.funs = append(r.funs, numbered{e, ahead})
		ahead++
	}
	for _, part := range e.Parts {
		r.listFuns(part, ahead)
		ahead += countFuns(part)
	}
}

func refer(p api.Program, arg api.Value, heap []api.Cell, fuel int) (o api.Outcome) {
	r := &reference{fuel: fuel, caps: free.Table(p.Arg, p.Body)}
	r.listFuns(p.Body, 0)
	r.out.Heap = append(r.out.Heap, heap...)
	defer func() {
		switch up := recover().(type) {
		case raised:
			r.out.Kind, r.out.Value = api.Raised, up.value
		case ended:
			r.out.Kind = up.how
		case nil:
		default:
			panic(up)
		}
		o = r.out
	}()
	v := r.value(p.Body, 0, []bound{{p.Arg, arg}})
	r.out.Kind, r.out.Value = api.Returned, v
	return
}

func (r *reference) step() {
	if r.out.Steps == r.fuel {
		panic(ended{api.OutOfFuel})
	}
	r.out.Steps++
}

func demand(holds bool) {
	if !holds {
		panic(ended{api.Stuck})
	}
}

func look(env []bound, name string) api.Value {
	for i := len(env) - 1; i >= 0; i-- {
		if env[i].name == name {
			return env[i].value
		}
	}
	panic(ended{api.Stuck})
}

func plus(env []bound, name string, v api.Value) []bound {
	return append(append([]bound{}, env...), bound{name, v})
}

// part is the value of e's Part i, of whose functions so many stand ahead of e.
func (r *reference) part(e api.Expr, i, ahead int, env []bound) api.Value {
	for _, earlier := range e.Parts[:i] {
		ahead += countFuns(earlier)
	}
	return r.value(e.Parts[i], ahead, env)
}

func (r *reference) value(e api.Expr, ahead int, env []bound) api.Value {
	switch e.Kind {
	case api.ELet:
		v := r.part(e, 0, ahead, env)
		return r.part(e, 1, ahead, plus(env, e.Text, v))
	case api.ESeq:
		r.part(e, 0, ahead, env)
		return r.part(e, 1, ahead, env)
	case api.ETry:
		if v, up := r.try(e, ahead, env); up == nil {
			return v
		} else {
			return r.part(e, 1, ahead, plus(env, e.Text, up.value))
		}
	case api.EFun:
		return r.fun(e, ahead, env)
	case api.EIf:
		v := r.part(e, 0, ahead, env)
		r.step()
		demand(v.Kind == api.Bool)
		if v.N == 1 {
			return r.part(e, 1, ahead, env)
		}
		return r.part(e, 2, ahead, env)
	}
	var parts []api.Value
	for i := range e.Parts {
		parts = append(parts, r.part(e, i, ahead, env))
	}
	r.step()
	return r.does(e, env, parts)
}

func (r *reference) try(e api.Expr, ahead int, env []bound) (v api.Value, up *raised) {
	defer func() {
		was := recover()
		if it, ok := was.(raised); ok {
			up = &it
		} else if was != nil {
			panic(was)
		}
	}()
	return r.part(e, 0, ahead, env), nil
}

func (r *reference) fun(e api.Expr, ahead int, env []bound) api.Value {
	r.step()
	var scope []string
	for _, b := range env {
		scope = append(scope, b.name)
	}
	made := api.Value{Kind: api.Fun, N: int64(ahead + 1)}
	for _, name := range free.Captures(scope, e) {
		made.Parts = append(made.Parts, look(env, name))
	}
	return bounded(made)
}

func bounded(v api.Value) api.Value {
	if value.Nodes(v) > api.MaxValue {
		panic(ended{api.Exhausted})
	}
	return v
}

// does is what an expression does itself, all Parts being done.
func (r *reference) does(e api.Expr, env []bound, parts []api.Value) api.Value {
	switch e.Kind {
	case api.EInt:
		return integer(e.N)
	case api.EBool:
		return boolean(e.N)
	case api.EVar:
		return look(env, e.Text)
	case api.ECall:
		return r.call(parts[0], parts[1])
	case api.EPair:
		return bounded(pair(parts[0], parts[1]))
	case api.EFirst, api.ESecond:
		demand(parts[0].Kind == api.Pair)
		return parts[0].Parts[e.Kind-api.EFirst]
	case api.ENew:
		r.out.Heap = append(r.out.Heap, api.Cell{Type: e.Type, Value: parts[0]})
		return ref(int64(len(r.out.Heap) - 1))
	case api.EGet, api.ESet:
		demand(parts[0].Kind == api.Ref && parts[0].N < int64(len(r.out.Heap)))
		if e.Kind == api.EGet {
			return r.out.Heap[parts[0].N].Value
		}
		r.out.Heap[parts[0].N].Value = parts[1]
		return integer(0)
	case api.EOut:
		demand(parts[0].Kind == api.Int)
		r.out.Trace = append(r.out.Trace, api.Event{Label: int(e.N), N: parts[0].N})
		return integer(0)
	case api.ERaise:
		demand(parts[0].Kind == api.Int)
		panic(raised{parts[0]})
	case api.ENot:
		demand(parts[0].Kind == api.Bool)
		return boolean(1 - parts[0].N)
	}
	demand(parts[0].Kind == api.Int && parts[1].Kind == api.Int)
	v, ok := reckoned(int(e.N), parts[0].N, parts[1].N)
	if !ok {
		panic(raised{integer(0)})
	}
	return v
}

func (r *reference) call(f, given api.Value) api.Value {
	demand(f.Kind == api.Fun && f.N >= 1 && f.N <= int64(len(r.funs)))
	called, caps := r.funs[f.N-1], r.caps[f.N-1].Caps
	demand(len(f.Parts) == len(caps))
	var env []bound
	for i, name := range caps {
		env = append(env, bound{name, f.Parts[i]})
	}
	env = append(env, bound{called.fun.Text, f}, bound{called.fun.Arg, given})
	return r.value(called.fun.Parts[0], called.ahead+1, env)
}
