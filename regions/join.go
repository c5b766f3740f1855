package regions

import (
	"slices"

	"palisade/api"
	"palisade/flow"
)

// joins are the joins of all places. All ways go ahead, so that from the back each place finds those of its ways there already.
func joins(f api.Func, raises []bool) []int {
	list := slices.Repeat([]int{api.None}, len(f.Code))
	// The lesser of two places can't be met from the greater one, so that its own join is the next that both may meet; None is less than all.
	meet := func(one, other int) int {
		for one != other {
			if min(one, other) == api.None {
				return api.None
			}
			if one < other {
				one = list[one]
			} else {
				other = list[other]
			}
		}
		return one
	}
	for at := len(f.Code) - 1; at >= 0; at-- {
		ways := flow.Ways(f, raises, at)
		if len(ways) == 0 || flow.Leaves(f, raises, at) {
			continue
		}
		list[at] = ways[0]
		for _, to := range ways[1:] {
			list[at] = meet(list[at], to)
		}
	}
	return list
}
