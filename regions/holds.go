package regions

import (
	"palisade/api"
	"palisade/flow"
)

// Holds tells the number of the first condition that fails; 0, if all hold, and -1, if the region is none of the function's.
func Holds(f api.Func, raises []bool, r api.Region) int {
	if !goesAhead(f) {
		return 0
	}
	if !isPlace(f, r.At) || r.Join != api.None && !isPlace(f, r.Join) {
		return -1
	}
	f = lean(f, raises)
	held := heldBy(f, r.Places)
	stays := func(at int) bool {
		for _, to := range flow.Ways(f, raises, at) {
			if !held[to] && to != r.Join {
				return false
			}
		}
		return true
	}
	remains := func(at int) bool {
		return r.Join == api.None || !flow.Leaves(f, raises, at)
	}
	switch {
	case !stays(r.At):
		return 1
	case !eachHeld(held, stays):
		return 2
	case !remains(r.At) || !eachHeld(held, remains):
		return 3
	}
	return 0
}

// heldBy tells of each place whether it is among those.
func heldBy(f api.Func, places []int) []bool {
	held := make([]bool, len(f.Code))
	for _, at := range places {
		if isPlace(f, at) {
			held[at] = true
		}
	}
	return held
}

func eachHeld(held []bool, ask func(at int) bool) bool {
	for at, is := range held {
		if is && !ask(at) {
			return false
		}
	}
	return true
}
