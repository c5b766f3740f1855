package vm

import (
	"palisade/api"
	"palisade/flow"
)

// frame is a function that runs: by which Fun, the place at which it goes on, its stack, and its slots. What it does, or has called, stands just ahead of that place. It has no room yet for slots behind the last one that was filled: where functions call themselves there may be very many frames.
type frame struct {
	own   *api.Func
	fun   api.Value
	place int
	stack []api.Value
	slots []api.Value
}

// filled is slots with what a function is given and what it captured.
func filled(given api.Value, captured []api.Value) []api.Value {
	slots := make([]api.Value, 1+len(captured))
	slots[0] = given
	copy(slots[1:], captured)
	return slots
}

// pop takes what is on top, if it is of the Kind that is needed.
func (f *frame) pop(kind int) (api.Value, bool) {
	top := len(f.stack) - 1
	if top < 0 {
		return api.Value{}, false
	}
	v := f.stack[top]
	f.stack = f.stack[:top]
	return v, kind == anything || v.Kind == kind
}

// take takes what an Op needs, the last one on top.
func (f *frame) take(kinds [2]int) (a, b api.Value, ok bool) {
	ok = true
	if kinds[1] != nothing {
		b, ok = f.pop(kinds[1])
	}
	if ok && kinds[0] != nothing {
		a, ok = f.pop(kinds[0])
	}
	return a, b, ok
}

// takeAll takes so many values, the last one on top, in memory of their own: what is put on the stack later lies where they lay.
func (f *frame) takeAll(many int) ([]api.Value, bool) {
	left := len(f.stack) - many
	if left < 0 {
		return nil, false
	}
	taken := make([]api.Value, many)
	copy(taken, f.stack[left:])
	f.stack = f.stack[:left]
	return taken, true
}

// load is what a slot has, and whether it is there and has something.
func (f *frame) load(slot int) (api.Value, bool) {
	if slot >= len(f.slots) {
		return api.Value{}, false
	}
	return f.slots[slot], f.slots[slot].Kind != 0
}

// store fills a slot, and tells whether it is there.
func (f *frame) store(slot int, v api.Value) bool {
	if slot >= f.own.Slots {
		return false
	}
	if more := slot + 1 - len(f.slots); more > 0 {
		f.slots = append(f.slots, make([]api.Value, more)...)
	}
	f.slots[slot] = v
	return true
}

// choose goes on at that place, if it is the one that is chosen.
func (f *frame) choose(at int, chosen bool) {
	if chosen {
		f.place = at
	}
}

// handles tells whether what is raised is handled here: then it goes on there, with that alone on the stack.
func (f *frame) handles(v api.Value) bool {
	handler := flow.Handler(*f.own, f.place-1)
	if handler == api.None {
		return false
	}
	f.stack = append(f.stack[:0], v)
	f.place = handler
	return true
}
