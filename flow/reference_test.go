package flow_test

import "palisade/api"

// What follows is the chapter's words once more, as plainly as may be: of each place it is asked whether it is one of those that are to be told.

func refPlace(f api.Func, at int) bool {
	for place := range f.Code {
		if place == at {
			return true
		}
	}
	return false
}

// refHolding are the handlers that hold a place; the first one counts.
func refHolding(f api.Func, at int) []api.Handler {
	var all []api.Handler
	for _, h := range f.Handlers {
		if refPlace(f, at) && !(h.From > at) && h.To > at {
			all = append(all, h)
		}
	}
	return all
}

func refHandler(f api.Func, at int) int {
	if all := refHolding(f, at); len(all) > 0 {
		return all[0].At
	}
	return none
}

func refRaises(f api.Func, raises []bool, at int) bool {
	if !refPlace(f, at) {
		return false
	}
	said := false
	for place, may := range raises {
		said = said || place == at && may
	}
	which := f.Code[at].Op
	return which == api.OpDiv || which == api.OpMod || which == api.OpRaise || which == api.OpCall && said
}

func refLeaves(f api.Func, raises []bool, at int) bool {
	return refPlace(f, at) && f.Code[at].Op == api.OpReturn || refRaises(f, raises, at) && refHandler(f, at) == none
}

func refBranches(f api.Func, raises []bool, at int) bool {
	if !refPlace(f, at) {
		return false
	}
	which := f.Code[at].Op
	return which == api.OpUnless || refRaises(f, raises, at) && which != api.OpRaise
}

// refWay tells whether there is a way from one place to another.
func refWay(f api.Func, raises []bool, at, to int) bool {
	i := f.Code[at]
	switch i.Op {
	case api.OpJump:
		return i.A == int64(to)
	case api.OpUnless:
		return i.A == int64(to) || to == at+1
	case 0, api.OpReturn:
		return false
	case api.OpRaise:
		return to == refHandler(f, at)
	}
	return to == at+1 || refRaises(f, raises, at) && to == refHandler(f, at)
}

func refWays(f api.Func, raises []bool, at int) []int {
	var all []int
	for to := range f.Code {
		if refPlace(f, at) && refWay(f, raises, at, to) {
			all = append(all, to)
		}
	}
	return all
}

// refReach adds places until there is none to add.
func refReach(f api.Func, raises []bool, from []int, stop int) []int {
	in := map[int]bool{}
	for _, at := range from {
		if refPlace(f, at) && at != stop {
			in[at] = true
		}
	}
	for grown := true; grown; {
		grown = false
		for at := range f.Code {
			for to := range f.Code {
				if in[at] && !in[to] && to != stop && refWay(f, raises, at, to) {
					in[to], grown = true, true
				}
			}
		}
	}
	var all []int
	for at := range f.Code {
		if in[at] {
			all = append(all, at)
		}
	}
	return all
}
