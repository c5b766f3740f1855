package regions_test

import (
	"slices"

	"palisade/api"
	"palisade/flow"
)

// What follows is the chapter's words once more, as plainly as may be, of functions whose ways go ahead: each place is tried as a join, and all that goes on is followed from each way.

func refPlace(f api.Func, at int) bool {
	return at >= 0 && at < len(f.Code)
}

// refMeets tells of each place whether everything that goes on from there meets the join. (What comes to an end meets nothing any more.)
func refMeets(f api.Func, raises []bool, join int) []bool {
	meets := make([]bool, len(f.Code))
	for at := len(f.Code) - 1; at >= 0; at-- {
		ways := flow.Ways(f, raises, at)
		all := len(ways) > 0
		for _, to := range ways {
			all = all && meets[to]
		}
		meets[at] = at == join || all
	}
	return meets
}

// refWithin are the places of the region of a place, with that join.
func refWithin(f api.Func, raises []bool, at, join int) []int {
	in := map[int]bool{}
	for place := range f.Code {
		for _, to := range flow.Ways(f, raises, place) {
			if (place == at || in[place]) && to != join {
				in[to] = true
			}
		}
	}
	var all []int
	for place := range f.Code {
		if in[place] {
			all = append(all, place)
		}
	}
	return all
}

func refJoin(f api.Func, raises []bool, at int) int {
	if !refPlace(f, at) {
		return none
	}
	for join := range f.Code {
		ways, meets := flow.Ways(f, raises, at), refMeets(f, raises, join)
		if len(ways) == 0 || slices.ContainsFunc(ways, func(to int) bool { return !meets[to] }) {
			continue
		}
		for _, place := range append(refWithin(f, raises, at, join), at) {
			if flow.Leaves(f, raises, place) {
				return none
			}
		}
		return join
	}
	return none
}

func refOf(f api.Func, raises []bool, at int) api.Region {
	if !refPlace(f, at) {
		return api.Region{}
	}
	join := refJoin(f, raises, at)
	return api.Region{At: at, Join: join, Places: refWithin(f, raises, at, join)}
}

func refMake(f api.Func, raises []bool) []api.Region {
	var all []api.Region
	for at := range f.Code {
		if flow.Branches(f, raises, at) {
			all = append(all, refOf(f, raises, at))
		}
	}
	return all
}

func refHolds(f api.Func, raises []bool, r api.Region) int {
	if !refPlace(f, r.At) || r.Join != none && !refPlace(f, r.Join) {
		return -1
	}
	stays := func(at int) bool {
		for _, to := range flow.Ways(f, raises, at) {
			if to != r.Join && !slices.Contains(r.Places, to) {
				return false
			}
		}
		return true
	}
	if !stays(r.At) {
		return 1
	}
	for _, at := range r.Places {
		if !stays(at) {
			return 2
		}
	}
	for _, at := range append([]int{r.At}, r.Places...) {
		if r.Join != none && flow.Leaves(f, raises, at) {
			return 3
		}
	}
	return 0
}
