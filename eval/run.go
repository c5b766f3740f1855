package eval

import (
	"palisade/api"
	"palisade/runs"
)

// run is a program's run. What is begun stands in a list, not on the stack of this program: one that calls itself may go deeper than that would bear.
type run struct {
	runs.Run
	functions []*node
	frames    []frame
	values    []api.Value
}

// frame is an expression that is begun, and the names with values where it stands. When it is the last one, the run's values from below on are those of its Parts that are done.
type frame struct {
	node  *node
	names *named
	below int
}

func (r *run) begin(n *node, names *named) {
	r.frames = append(r.frames, frame{n, names, len(r.values)})
}

// give is told the value of the expression that was taken off last.
func (r *run) give(v api.Value) {
	r.values = append(r.values, v)
}

func (r *run) toEnd() {
	for r.Goes() {
		r.goOn()
	}
}

// goOn goes on with what was begun last: it begins its next Part, or does what is to be done when the values that it needs are there.
func (r *run) goOn() {
	top := len(r.frames) - 1
	if top < 0 {
		r.End(api.Returned, r.values[0])
		return
	}
	f := r.frames[top]
	done := r.values[f.below:]
	if f.node.needs(len(done)) {
		r.begin(f.node.parts[len(done)], f.names)
		return
	}
	var given [2]api.Value
	copy(given[:], done)
	r.takeOff(top)
	r.act(f, given[0], given[1])
}

// takeOff takes off the frames from top on, and their values.
func (r *run) takeOff(top int) {
	r.values = r.values[:r.frames[top].below]
	r.frames = r.frames[:top]
}

// act does what is a step, and what is none.
func (r *run) act(f frame, first, second api.Value) {
	switch f.node.Kind {
	case api.ELet:
		r.begin(f.node.parts[1], f.names.with(f.node.Text, first))
	case api.ESeq:
		r.begin(f.node.parts[1], f.names)
	case api.ETry:
		r.give(first)
	default:
		r.step(f, first, second)
	}
}

func (r *run) step(f frame, first, second api.Value) {
	if !r.Step() {
		return
	}
	if !f.node.takes(first, second) {
		r.Stop(api.Stuck)
		return
	}
	r.do(f.node, f.names, first, second)
}

// raise goes on with what the last ETry that is begun does else: its first Part isn't done, as it is taken off then.
func (r *run) raise(v api.Value) {
	for top := len(r.frames) - 1; top >= 0; top-- {
		f := r.frames[top]
		if f.node.Kind == api.ETry {
			r.takeOff(top)
			r.begin(f.node.parts[1], f.names.with(f.node.Text, v))
			return
		}
	}
	r.End(api.Raised, v)
}
