package runs_test

import (
	"math"
	"reflect"
	"testing"

	"palisade/api"
	"palisade/runs"
)

func integer(n int64) api.Value {
	return api.Value{Kind: api.Int, N: n}
}

func ref(n int64) api.Value {
	return api.Value{Kind: api.Ref, N: n}
}

// row is a Fun of so many nodes.
func row(nodes int) api.Value {
	v := api.Value{Kind: api.Fun}
	for range nodes - 1 {
		v.Parts = append(v.Parts, integer(3))
	}
	return v
}

// cells are so many, each with an Int of its number.
func cells(many int) []api.Cell {
	made := make([]api.Cell, many)
	for i := range made {
		made[i].Value = integer(int64(i))
	}
	return made
}

// TestMayBegin: values that are formed, whatever the cells' Types, at most 1000 cells, and fuel from 0 to MaxSteps.
func TestMayBegin(t *testing.T) {
	odd := cells(3)
	odd[2].Type = api.Type{Kind: -7}
	for _, fuel := range []int{0, 1, api.MaxSteps} {
		if !runs.MayBegin(row(api.MaxValue), odd, fuel) || !runs.MayBegin(integer(1), nil, fuel) || !runs.MayBegin(integer(1), cells(1000), fuel) {
			t.Error("refused:", fuel)
		}
		if runs.MayBegin(integer(1), cells(1001), fuel) || runs.MayBegin(api.Value{}, nil, fuel) || runs.MayBegin(row(api.MaxValue+1), nil, fuel) {
			t.Error("taken:", fuel)
		}
		for i := range 3 {
			bad := cells(3)
			bad[i].Value = api.Value{Kind: api.Bool, N: 2}
			if runs.MayBegin(integer(1), bad, fuel) {
				t.Error("taken: the cell", i)
			}
		}
	}
	for _, fuel := range []int{-1, api.MaxSteps + 1, math.MinInt, math.MaxInt} {
		if runs.MayBegin(integer(1), nil, fuel) {
			t.Error("taken:", fuel)
		}
	}
}

// TestSteps: as many as there is fuel; then the run is out of fuel.
func TestSteps(t *testing.T) {
	for fuel := range 4 {
		r := runs.Begin(nil, fuel)
		for range fuel {
			if !r.Step() || !r.Goes() {
				t.Error("no step:", fuel)
			}
		}
		if r.Step() || r.Goes() {
			t.Error("a step too many:", fuel)
		}
		if o := r.Outcome(); o.Kind != api.OutOfFuel || o.Steps != fuel || o.Value.Kind != 0 {
			t.Error(o)
		}
	}
}

// TestEnds: with a value, and without.
func TestEnds(t *testing.T) {
	r := runs.Begin(nil, 3)
	r.Step()
	r.Tell(1, 7)
	r.Tell(0, -8)
	r.End(api.Raised, integer(5))
	if o := r.Outcome(); r.Goes() || o.Kind != api.Raised || o.Value.N != 5 || o.Steps != 1 || !reflect.DeepEqual(o.Trace, []api.Event{{Label: 1, N: 7}, {Label: 0, N: -8}}) {
		t.Error(o)
	}
	r.Stop(api.Stuck)
	if o := r.Outcome(); o.Kind != api.Stuck || !reflect.DeepEqual(o.Value, api.Value{}) {
		t.Error(o)
	}
}

// TestFits: what is made has at most MaxValue nodes; else the run is exhausted.
func TestFits(t *testing.T) {
	r := runs.Begin(nil, 0)
	if !r.Fits(row(api.MaxValue)) || !r.Goes() || r.Fits(row(api.MaxValue+1)) || r.Outcome().Kind != api.Exhausted {
		t.Error(r.Outcome().Kind)
	}
}

// TestCells: they are made behind those that there are, read and written; those that the run began with are left as they were. One that isn't there is Stuck.
func TestCells(t *testing.T) {
	heap := cells(2)
	r := runs.Begin(heap[:1], 0)
	typ := api.Type{Kind: api.Bool, Label: 1}
	if !r.Set(ref(0), integer(3)) {
		t.Error("there is no cell")
	}
	if made := r.NewCell(typ, integer(9)); !reflect.DeepEqual(made, ref(1)) || r.Cells() != 2 {
		t.Error(made, r.Cells())
	}
	if v, ok := r.Get(ref(1)); !ok || v.N != 9 || !r.Set(ref(0), integer(4)) || !r.Goes() {
		t.Error(v, ok)
	}
	if v, ok := r.Get(ref(0)); !ok || v.N != 4 {
		t.Error(v, ok)
	}
	if heap[0].Value.N != 0 || heap[1].Value.N != 1 {
		t.Error("changed:", heap)
	}
	if o := r.Outcome(); len(o.Heap) != 2 || o.Heap[0].Value.N != 4 || o.Heap[1].Value.N != 9 || !reflect.DeepEqual(o.Heap[1].Type, typ) {
		t.Error(o)
	}
	for _, n := range []int64{1, 2, 1<<31 - 1} {
		r := runs.Begin(heap[:1], 0)
		if v, ok := r.Get(ref(n)); ok || v.Kind != 0 || r.Outcome().Kind != api.Stuck {
			t.Error(v, ok)
		}
		r = runs.Begin(heap[:1], 0)
		if r.Set(ref(n), integer(5)) || r.Outcome().Kind != api.Stuck || heap[1].Value.N != 1 {
			t.Error("a cell that isn't there was written:", n)
		}
	}
}

// TestOwnMemory: one value and one Type in several places of what is told stand in memory of their own in each.
func TestOwnMemory(t *testing.T) {
	v, typ := row(3), api.Type{Kind: api.Ref, Parts: []api.Type{{Kind: api.Int}}}
	r := runs.Begin([]api.Cell{{Type: typ, Value: v}}, 0)
	r.NewCell(typ, v)
	r.End(api.Returned, v)
	o := r.Outcome()
	values := map[*api.Value]int{&v.Parts[0]: 1, &o.Value.Parts[0]: 1, &o.Heap[0].Value.Parts[0]: 1, &o.Heap[1].Value.Parts[0]: 1}
	kinds := map[*api.Type]int{&typ.Parts[0]: 1, &o.Heap[0].Type.Parts[0]: 1, &o.Heap[1].Type.Parts[0]: 1}
	if len(values) != 4 || len(kinds) != 3 || !reflect.DeepEqual(o.Value, v) || !reflect.DeepEqual(o.Heap, []api.Cell{{Type: typ, Value: v}, {Type: typ, Value: v}}) {
		t.Error(o)
	}
}
