package flow

import (
	"slices"

	"palisade/api"
)

// waysWith is the ways from a place whose handler is known already.
func waysWith(f api.Func, raises []bool, at, handler int) []int {
	var ways []int
	if goesOn(f.Code[at].Op) && isPlace(f, at+1) {
		ways = append(ways, at+1)
	}
	if to := target(f, at); to != api.None {
		ways = append(ways, to)
	}
	if Raises(f, raises, at) && isPlace(f, handler) {
		ways = append(ways, handler)
	}
	slices.Sort(ways)
	return slices.Compact(ways)
}

// goesOn tells whether such an instruction may go on at the next place; of numbers that are no Op only 0 doesn't.
func goesOn(op int) bool {
	return op != 0 && op != api.OpJump && op != api.OpRaise && op != api.OpReturn
}

// target is the place that the instruction jumps to; None, if there is none. The number is held against the places ahead of its conversion, since an int may have less room.
func target(f api.Func, at int) int {
	ins := f.Code[at]
	jumps := ins.Op == api.OpJump || ins.Op == api.OpUnless
	if !jumps || ins.A < 0 || ins.A >= int64(len(f.Code)) {
		return api.None
	}
	return int(ins.A)
}
