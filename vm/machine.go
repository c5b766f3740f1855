package vm

import (
	"palisade/api"
	"palisade/runs"
)

// machine is a run of a class. Functions that are called stand in a list, not on the stack of this program: one that calls itself may go deeper than that would bear.
type machine struct {
	runs.Run
	class  api.Class
	limits api.Limits
	frames []frame
}

func (m *machine) toEnd() {
	for m.Goes() {
		m.goOn()
	}
}

// goOn does the next instruction of the function that was called last.
func (m *machine) goOn() {
	f := &m.frames[len(m.frames)-1]
	if f.place >= len(f.own.Code) {
		m.Stop(api.Stuck)
		return
	}
	if m.Step() {
		f.place++
		m.do(f, f.own.Code[f.place-1])
	}
}

// enter begins the function of a Fun.
func (m *machine) enter(fun, given api.Value) {
	if len(m.frames) == m.limits.Frames {
		m.Stop(api.Exhausted)
		return
	}
	m.frames = append(m.frames, frame{own: &m.class.Funcs[fun.N], fun: fun, slots: filled(given, fun.Parts)})
}

func (m *machine) call(fun, given api.Value) {
	if !m.callable(fun) {
		m.Stop(api.Stuck)
		return
	}
	m.enter(fun, given)
}

// callable tells whether a Fun is a function's that has room for what it captured and for what it is given.
func (m *machine) callable(fun api.Value) bool {
	if fun.N >= int64(len(m.class.Funcs)) {
		return false
	}
	own := m.class.Funcs[fun.N]
	return len(fun.Parts) == len(own.Caps) && own.Slots > len(own.Caps)
}

// leave ends the last function, and gives that to the one that has called it.
func (m *machine) leave(f *frame, v api.Value) {
	if len(f.stack) > 0 {
		m.Stop(api.Stuck)
		return
	}
	top := len(m.frames) - 1
	m.frames = m.frames[:top]
	if top == 0 {
		m.End(api.Returned, v)
		return
	}
	m.put(&m.frames[top-1], v)
}

// raise goes on at the first handler, from the last function back; functions in which there is none are left.
func (m *machine) raise(v api.Value) {
	for top := len(m.frames) - 1; top >= 0; top-- {
		if m.frames[top].handles(v) {
			m.frames = m.frames[:top+1]
			return
		}
	}
	m.End(api.Raised, v)
}

// put puts a value on a stack, if that isn't full.
func (m *machine) put(f *frame, v api.Value) {
	if len(f.stack) == api.MaxStack {
		m.Stop(api.Stuck)
		return
	}
	f.stack = append(f.stack, v)
}
