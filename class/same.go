package class

import (
	"slices"

	"palisade/api"
	"palisade/lattice"
	"palisade/types"
)

// Same tells whether both are alike, formed or not.
func Same(a, b api.Class) bool {
	return lattice.Same(a.Lattice, b.Lattice) && slices.EqualFunc(a.Funcs, b.Funcs, sameFunction)
}

func sameFunction(a, b api.Func) bool {
	return a.Heap == b.Heap && a.Exc == b.Exc && a.Slots == b.Slots &&
		types.Same(a.Param, b.Param) && types.Same(a.Result, b.Result) && sameTypes(a.Caps, b.Caps) &&
		slices.EqualFunc(a.Code, b.Code, sameInstruction) &&
		slices.Equal(a.Handlers, b.Handlers) &&
		slices.EqualFunc(a.Points, b.Points, samePoint) &&
		slices.EqualFunc(a.Regions, b.Regions, sameRegion)
}

func sameTypes(a, b []api.Type) bool {
	return slices.EqualFunc(a, b, types.Same)
}

func sameInstruction(a, b api.Ins) bool {
	return a.Op == b.Op && a.A == b.A && types.Same(a.T, b.T)
}

func samePoint(a, b api.Point) bool {
	return a.Env == b.Env && sameTypes(a.Stack, b.Stack) && sameTypes(a.Slots, b.Slots)
}

func sameRegion(a, b api.Region) bool {
	return a.At == b.At && a.Join == b.Join && slices.Equal(a.Places, b.Places)
}
