// Package runs is what all runs have alike, by a program's text, by slots and by code (layers 9, 12 and 18): with what they may begin, cells, events, steps, and how they end.
package runs

import (
	"slices"

	"palisade/api"
	"palisade/value"
)

// maxCells is how many cells a run may begin with.
const maxCells = 1000

// MayBegin tells whether a run may begin with these. The Types of cells aren't asked.
func MayBegin(arg api.Value, heap []api.Cell, fuel int) bool {
	if fuel < 0 || fuel > api.MaxSteps || len(heap) > maxCells || !value.Formed(arg) {
		return false
	}
	for _, cell := range heap {
		if !value.Formed(cell.Value) {
			return false
		}
	}
	return true
}

// Run is a run as far as it has gone.
type Run struct {
	cells []api.Cell
	trace []api.Event
	fuel  int
	steps int
	ended int // how; 0, while it goes on
	last  api.Value
}

// Begin is a run that has done nothing yet.
func Begin(heap []api.Cell, fuel int) Run {
	return Run{cells: slices.Clone(heap), fuel: fuel}
}

// Goes tells whether it hasn't ended.
func (r *Run) Goes() bool {
	return r.ended == 0
}

// End ends it with a value.
func (r *Run) End(how int, v api.Value) {
	r.ended, r.last = how, v
}

// Stop ends it otherwise than with a value.
func (r *Run) Stop(how int) {
	r.End(how, api.Value{})
}

// Step takes a step; without fuel for it the run ends, and it is false.
func (r *Run) Step() bool {
	if r.steps == r.fuel {
		r.Stop(api.OutOfFuel)
		return false
	}
	r.steps++
	return true
}

// Fits tells whether a Pair or a Fun that is new isn't too great; else the run ends.
func (r *Run) Fits(v api.Value) bool {
	if value.Nodes(v) > api.MaxValue {
		r.Stop(api.Exhausted)
		return false
	}
	return true
}

// Cells is how many there are.
func (r *Run) Cells() int {
	return len(r.cells)
}

// NewCell is the Ref of a cell behind all others.
func (r *Run) NewCell(t api.Type, v api.Value) api.Value {
	r.cells = append(r.cells, api.Cell{Type: t, Value: v})
	return api.Value{Kind: api.Ref, N: int64(len(r.cells) - 1)}
}

// cell is the one of a Ref; if there is none, the run ends.
func (r *Run) cell(ref api.Value) (*api.Cell, bool) {
	if ref.N >= int64(len(r.cells)) {
		r.Stop(api.Stuck)
		return nil, false
	}
	return &r.cells[ref.N], true
}

// Get is what the cell of a Ref holds; if there is none, the run ends, and it is false.
func (r *Run) Get(ref api.Value) (api.Value, bool) {
	c, ok := r.cell(ref)
	if !ok {
		return api.Value{}, false
	}
	return c.Value, true
}

// Set lets the cell of a Ref hold v; if there is none, the run ends, and it is false.
func (r *Run) Set(ref, v api.Value) bool {
	c, ok := r.cell(ref)
	if ok {
		c.Value = v
	}
	return ok
}

// Tell adds an event.
func (r *Run) Tell(label int, n int64) {
	r.trace = append(r.trace, api.Event{Label: label, N: n})
}
