package runs

import (
	"slices"

	"palisade/api"
	"palisade/walk"
)

// Outcome tells how the run has ended. Values shared memory while it went on, and are told in memory of their own.
func (r *Run) Outcome() api.Outcome {
	for i, cell := range r.cells {
		r.cells[i] = api.Cell{Type: ownType(cell.Type), Value: ownValue(cell.Value)}
	}
	return api.Outcome{Kind: r.ended, Value: ownValue(r.last), Trace: r.trace, Heap: r.cells, Steps: r.steps}
}

// ownValue is asked of values that are small enough for a recursion.
func ownValue(v api.Value) api.Value {
	v.Parts = slices.Clone(v.Parts)
	for i, part := range v.Parts {
		v.Parts[i] = ownValue(part)
	}
	return v
}

// ownType is asked of types of any size: those of the cells that a run begins with may be unformed.
func ownType(t api.Type) api.Type {
	return walk.Copy(t, func(t api.Type) []api.Type { return t.Parts }, func(t api.Type, parts []api.Type) api.Type {
		t.Parts = parts
		return t
	})
}
