package ireval

import (
	"palisade/api"
	"palisade/ir"
)

// frame is a function that was called: by which Fun, its slots, and which of its nodes are begun. It has no room yet for slots behind the last one that was filled: where functions call themselves there may be very many frames.
type frame struct {
	fn    *ir.Fn
	fun   api.Value
	slots []api.Value
	begun []begun
	into  int
}

// begun is the nodes of a list that aren't begun yet; try is the node whose Body they are, if what they raise is taken by one.
type begun struct {
	nodes []ir.Node
	try   *ir.Node
}

// filled is slots with what a function is given and what it captured.
func filled(given api.Value, captured []api.Value) []api.Value {
	slots := make([]api.Value, 1+len(captured))
	slots[0] = given
	copy(slots[1:], captured)
	return slots
}

// value is what a slot has: of no Kind, if it has nothing, or is None.
func (f *frame) value(slot int) api.Value {
	if slot < 0 || slot >= len(f.slots) {
		return api.Value{}
	}
	return f.slots[slot]
}

// read is what a slot has, and whether that is of the kind that is needed. Where none is, the number of the slot means nothing.
func (f *frame) read(slot, kind int) (api.Value, bool) {
	if kind == nothing {
		return api.Value{}, true
	}
	v := f.value(slot)
	return v, v.Kind == kind || kind == anything && v.Kind != 0
}

// readAll is what these slots have, and whether all have something.
func (f *frame) readAll(slots []int) ([]api.Value, bool) {
	var values []api.Value
	for _, slot := range slots {
		v, ok := f.read(slot, anything)
		if !ok {
			return nil, false
		}
		values = append(values, v)
	}
	return values, true
}

func (f *frame) put(slot int, v api.Value) {
	if more := slot + 1 - len(f.slots); more > 0 {
		f.slots = append(f.slots, make([]api.Value, more)...)
	}
	f.slots[slot] = v
}

func (f *frame) begin(nodes []ir.Node, try *ir.Node) {
	f.begun = append(f.begun, begun{nodes, try})
}

// next is the next node of the list that was begun last; if there is none, that list is taken off.
func (f *frame) next() *ir.Node {
	top := len(f.begun) - 1
	nodes := f.begun[top].nodes
	if len(nodes) == 0 {
		f.begun = f.begun[:top]
		return nil
	}
	f.begun[top].nodes = nodes[1:]
	return &nodes[0]
}

// takes tells whether what is raised is taken here: then its Try goes on with it.
func (f *frame) takes(v api.Value) bool {
	for top := len(f.begun) - 1; top >= 0; top-- {
		if try := f.begun[top].try; try != nil {
			f.begun = f.begun[:top]
			f.put(try.Dst, v)
			f.begin(try.Else, nil)
			return true
		}
	}
	return false
}
