package ireval

import (
	"palisade/api"
	"palisade/ir"
	"palisade/runs"
)

// run is a run of functions. Those that are called stand in a list, not on the stack of this program: one that calls itself may go deeper than that would bear.
type run struct {
	runs.Run
	fns    []ir.Fn
	frames []frame
}

// enter begins the function of a Fun. Into that slot of the one that has called it goes what it gives.
func (r *run) enter(fun, given api.Value, into int) {
	fn := &r.fns[fun.N]
	r.frames = append(r.frames, frame{fn: fn, fun: fun, slots: filled(given, fun.Parts), begun: []begun{{nodes: fn.Body}}, into: into})
}

func (r *run) toEnd() {
	for r.Goes() {
		r.goOn()
	}
}

// goOn begins the next node of what was begun last; where there is none, that is over.
func (r *run) goOn() {
	f := &r.frames[len(r.frames)-1]
	if len(f.begun) == 0 {
		r.leave()
		return
	}
	if n := f.next(); n != nil {
		r.step(f, n)
	}
}

// leave ends the last function, and gives what it gives to the one that has called it.
func (r *run) leave() {
	top := len(r.frames) - 1
	f := r.frames[top]
	r.frames = r.frames[:top]
	v := f.value(f.fn.Out)
	switch {
	case v.Kind == 0:
		r.Stop(api.Stuck)
	case top == 0:
		r.End(api.Returned, v)
	default:
		r.frames[top-1].put(f.into, v)
	}
}

func (r *run) step(f *frame, n *ir.Node) {
	if !r.Step() {
		return
	}
	kinds := needed[n.Op]
	a, okA := f.read(n.A, kinds[0])
	b, okB := f.read(n.B, kinds[1])
	if !okA || !okB {
		r.Stop(api.Stuck)
		return
	}
	r.do(f, n, a, b)
}

// raise goes on with what the last Try that is begun does else; functions in which there is none are left.
func (r *run) raise(v api.Value) {
	for top := len(r.frames) - 1; top >= 0; top-- {
		if r.frames[top].takes(v) {
			r.frames = r.frames[:top+1]
			return
		}
	}
	r.End(api.Raised, v)
}
