package regions

import (
	"slices"

	"palisade/api"
	"palisade/flow"
)

// goesAhead tells whether the function is one that regions are made of. A jump or a handler to no place goes nowhere, and so not back.
func goesAhead(f api.Func) bool {
	if len(f.Code) > api.MaxCode {
		return false
	}
	for at, i := range f.Code {
		jumps := i.Op == api.OpJump || i.Op == api.OpUnless
		if jumps && i.A >= 0 && i.A <= int64(at) {
			return false
		}
	}
	for _, h := range f.Handlers {
		if isPlace(f, h.At) && max(h.From, h.At) < min(h.To, len(f.Code)) {
			return false
		}
	}
	return true
}

// lean is the function with those handlers alone that take something: handlers may be far more than places, and flow goes through them for each place.
func lean(f api.Func, raises []bool) api.Func {
	open := raising(f, raises)
	made := api.Func{Code: f.Code}
	for _, h := range f.Handlers {
		first, _ := slices.BinarySearch(open, h.From)
		behind, _ := slices.BinarySearch(open, h.To)
		if first < behind {
			made.Handlers = append(made.Handlers, h)
			open = slices.Delete(open, first, behind)
		}
	}
	return made
}

// raising are the places that raise, rising.
func raising(f api.Func, raises []bool) []int {
	var places []int
	for at := range f.Code {
		if flow.Raises(f, raises, at) {
			places = append(places, at)
		}
	}
	return places
}

func isPlace(f api.Func, at int) bool {
	return at >= 0 && at < len(f.Code)
}
