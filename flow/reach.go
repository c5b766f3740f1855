package flow

import (
	"slices"

	"palisade/api"
)

// Reach tells the places that are come to from those in from, which are so too, rising; at stop nothing goes on, nor is it told.
func Reach(f api.Func, raises []bool, from []int, stop int) []int {
	met := make([]bool, len(f.Code))
	handlers := allHandlers(f)
	var open []int
	meet := func(all []int) {
		for _, at := range all {
			if isPlace(f, at) && at != stop && !met[at] {
				met[at] = true
				open = append(open, at)
			}
		}
	}
	meet(from)
	for len(open) > 0 {
		at := open[len(open)-1]
		open = open[:len(open)-1]
		meet(waysWith(f, raises, at, handlers[at]))
	}
	return placesOf(met)
}

func placesOf(met []bool) []int {
	var places []int
	for at, is := range met {
		if is {
			places = append(places, at)
		}
	}
	return places
}

// allHandlers is the handler of each place. Code may have as many handlers as places, and be gone through from each place: so places that have theirs already are leapt over.
func allHandlers(f api.Func) []int {
	n := len(f.Code)
	all := slices.Repeat([]int{api.None}, n)
	ahead := make([]int, n+1)
	for at := range ahead {
		ahead[at] = at
	}
	for _, h := range f.Handlers {
		for at := freeFrom(ahead, max(h.From, 0)); at < min(h.To, n); at = freeFrom(ahead, at) {
			all[at] = h.At
			ahead[at] = at + 1
		}
	}
	return all
}

// freeFrom is the first number from at on that is its own ahead; the last one always is. The leaps are made longer on the way.
func freeFrom(ahead []int, at int) int {
	if at >= len(ahead) {
		return len(ahead) - 1
	}
	for ahead[at] != at {
		ahead[at] = ahead[ahead[at]]
		at = ahead[at]
	}
	return at
}
