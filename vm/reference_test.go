package vm_test

import (
	"palisade/api"
	"palisade/class"
	"palisade/value"
)

// What follows is the chapter's words once more: by recursion, with slots in maps, and panics for what goes up.

type reference struct {
	question
	open int // frames that there are
	most int // frames that there were at one time
	did  [28]int
	out  api.Outcome
}

// raised and ended are what goes up.
type raised struct{ value api.Value }
type ended struct{ how int }

// frame is a function that runs.
type frame struct {
	f     api.Func
	fun   api.Value
	place int64
	stack []api.Value
	slots map[int64]api.Value
}

func (q question) formed() bool {
	ok := class.Formed(q.c) && value.Formed(q.arg) && len(q.heap) <= 1000
	for _, c := range q.heap {
		ok = ok && value.Formed(c.Value)
	}
	return ok && q.limits.Fuel >= 0 && q.limits.Fuel <= 65536 && q.limits.Frames >= 0 && q.limits.Cells >= 0
}

func (q question) refer() api.Outcome {
	return q.follow().out
}

// follow is the whole run.
func (q question) follow() (r *reference) {
	r = &reference{question: q}
	if !q.formed() {
		r.out.Kind = api.Stuck
		return
	}
	r.out.Heap = append(r.out.Heap, q.heap...)
	defer func() {
		switch up := recover().(type) {
		case raised:
			r.out.Kind, r.out.Value = api.Raised, up.value
		case ended:
			r.out.Kind = up.how
		case nil:
		default:
			panic(up)
		}
	}()
	v := r.runs(fun(0), q.arg)
	r.out.Kind, r.out.Value = api.Returned, v
	return
}

func demand(holds bool) {
	if !holds {
		panic(ended{api.Stuck})
	}
}

func room(there bool) {
	if !there {
		panic(ended{api.Exhausted})
	}
}

// runs is what the function of a Fun returns.
func (r *reference) runs(called, given api.Value) api.Value {
	room(r.open < r.limits.Frames)
	r.open++
	r.most = max(r.most, r.open)
	f := &frame{f: r.c.Funcs[called.N], fun: called, slots: map[int64]api.Value{0: given}}
	for i, v := range called.Parts {
		f.slots[int64(1+i)] = v
	}
	for {
		if r.instruction(f) {
			demand(len(f.stack) == 1)
			r.open--
			return f.stack[0]
		}
	}
}

// instruction does the one at f's place, and tells whether that returns.
func (r *reference) instruction(f *frame) bool {
	demand(f.place < int64(len(f.f.Code)))
	if r.out.Steps == r.limits.Fuel {
		panic(ended{api.OutOfFuel})
	}
	r.out.Steps++
	i, at, open := f.f.Code[f.place], f.place, r.open
	r.did[i.Op]++
	defer func() {
		up := recover()
		it, ok := up.(raised)
		if up == nil {
			return
		}
		for _, h := range f.f.Handlers {
			if ok && int64(h.From) <= at && at < int64(h.To) {
				f.stack, f.place, r.open = []api.Value{it.value}, int64(h.At), open
				return
			}
		}
		panic(up)
	}()
	f.place++
	r.plain(f, i)
	r.funs(f, i)
	r.others(f, i)
	return i.Op == api.OpReturn
}

// pop is what is on top, which must be there, and of that Kind (0: of any).
func (f *frame) pop(kind int) api.Value {
	demand(len(f.stack) > 0)
	v := f.stack[len(f.stack)-1]
	f.stack = append([]api.Value(nil), f.stack[:len(f.stack)-1]...)
	demand(kind == 0 || v.Kind == kind)
	return v
}

func (f *frame) push(v api.Value) {
	demand(len(f.stack) < 8)
	f.stack = append(f.stack, v)
}

func (f *frame) pushTruth(holds bool) {
	f.push(boolean(map[bool]int64{true: 1}[holds]))
}

// plain does what Ints and Bools need.
func (r *reference) plain(f *frame, i api.Ins) {
	var a, b int64
	if i.Op >= api.OpAdd && i.Op <= api.OpSame {
		b = f.pop(api.Int).N
		a = f.pop(api.Int).N
	}
	if (i.Op == api.OpDiv || i.Op == api.OpMod) && b == 0 {
		panic(raised{integer(0)})
	}
	switch i.Op {
	case api.OpInt:
		f.push(integer(i.A))
	case api.OpBool:
		f.push(boolean(i.A))
	case api.OpAdd:
		f.push(integer(a + b))
	case api.OpSub:
		f.push(integer(a - b))
	case api.OpMul:
		f.push(integer(a * b))
	case api.OpDiv:
		f.push(integer(a / b))
	case api.OpMod:
		f.push(integer(a % b))
	case api.OpLess:
		f.pushTruth(a < b)
	case api.OpSame:
		f.pushTruth(a == b)
	case api.OpNot:
		f.pushTruth(f.pop(api.Bool).N == 0)
	case api.OpUnless:
		if f.pop(api.Bool).N == 0 {
			f.place = i.A
		}
	case api.OpJump:
		f.place = i.A
	case api.OpRaise:
		panic(raised{f.pop(api.Int)})
	}
}

func (r *reference) funs(f *frame, i api.Ins) {
	switch i.Op {
	case api.OpClose:
		demand(i.A < int64(len(r.c.Funcs)))
		made := fun(i.A)
		for range r.c.Funcs[i.A].Caps {
			made.Parts = append([]api.Value{f.pop(0)}, made.Parts...)
		}
		room(value.Nodes(made) <= 2000)
		f.push(made)
	case api.OpSelf:
		f.push(f.fun)
	case api.OpCall:
		given := f.pop(0)
		called := f.pop(api.Fun)
		demand(called.N < int64(len(r.c.Funcs)))
		g := r.c.Funcs[called.N]
		demand(len(called.Parts) == len(g.Caps) && g.Slots > len(g.Caps))
		f.push(r.runs(called, given))
	}
}

func (r *reference) others(f *frame, i api.Ins) {
	switch i.Op {
	case api.OpLoad:
		v, ok := f.slots[i.A]
		demand(ok)
		f.push(v)
	case api.OpStore:
		demand(i.A < int64(f.f.Slots))
		f.slots[i.A] = f.pop(0)
	case api.OpPop:
		f.pop(0)
	case api.OpPair:
		second := f.pop(0)
		made := pair(f.pop(0), second)
		room(value.Nodes(made) <= 2000)
		f.push(made)
	case api.OpFirst:
		f.push(f.pop(api.Pair).Parts[0])
	case api.OpSecond:
		f.push(f.pop(api.Pair).Parts[1])
	case api.OpNew:
		v := f.pop(0)
		room(len(r.out.Heap) < r.limits.Cells)
		r.out.Heap = append(r.out.Heap, api.Cell{Type: i.T, Value: v})
		f.push(ref(int64(len(r.out.Heap) - 1)))
	case api.OpGet:
		f.push(r.held(f.pop(api.Ref)).Value)
	case api.OpSet:
		v := f.pop(0)
		r.held(f.pop(api.Ref)).Value = v
	case api.OpOut:
		demand(i.A < int64(len(r.c.Lattice.Names)))
		r.out.Trace = append(r.out.Trace, api.Event{Label: int(i.A), N: f.pop(api.Int).N})
	}
}

func (r *reference) held(v api.Value) *api.Cell {
	demand(v.N < int64(len(r.out.Heap)))
	return &r.out.Heap[v.N]
}
