package verify_test

import (
	"fmt"
	"testing"

	"palisade/api"
)

// TestEnvs (P17.1): K is below the Env of each of the region's Places; of the place itself, the join and all others nothing is asked.
func TestEnvs(t *testing.T) {
	for at := range fork().Points {
		for _, env := range labels {
			f := changed(fork(), func(f *api.Func) {
				f.Points[at].Env = env
				// What is pushed there, and returned, may have any label.
				f.Result = integer(lAB)
				f.Points[3].Stack, f.Points[5].Stack = list(integer(lAB)), list(integer(lAB))
			})
			name := fmt.Sprint("Env ", env, " at ", at)
			switch inside := at >= 2 && at <= 4; {
			case at == 0 && !leq(env, lA): // what it loads is raised by it
				asksOne(t, name, f, 0)
			case at == 1 && !leq(env, lA): // so K is the top
				asksOne(t, name, f, 1)
			case inside && !leq(lA, env):
				asksOne(t, name, f, 1)
			default:
				asksOne(t, name, f, nowhere)
			}
		}
	}
}

// TestRegionsHold (P17.1): where there is a K, there is a region of that place, which holds.
func TestRegionsHold(t *testing.T) {
	places := []int{2, 3, 4}
	for _, c := range []struct {
		name    string
		regions []api.Region
		at      int
	}{
		{"as it is", []api.Region{{At: 1, Join: 5, Places: places}}, nowhere},
		{"none", nil, 1},
		{"of the place ahead", []api.Region{{At: 0, Join: 5, Places: []int{1, 2, 3, 4}}}, 1},
		{"of the place behind", []api.Region{{At: 2, Join: 5, Places: []int{3, 4}}}, 1},
		{"among others", []api.Region{{At: 0, Join: none}, {At: 1, Join: 5, Places: places}, {At: 2, Join: 3, Places: []int{5}}, {At: 4, Join: none}}, nowhere},
		{"among others, which holds as none", []api.Region{{At: 0, Join: 5, Places: []int{1, 2, 3, 4}}, {At: 2, Join: 5, Places: []int{3, 4}}}, 1},
		{"a way from the place leads out", []api.Region{{At: 1, Join: 5, Places: []int{2, 3}}}, 1},
		{"the other way leads out", []api.Region{{At: 1, Join: 5, Places: []int{3, 4}}}, 1},
		{"a way from a place leads out", []api.Region{{At: 1, Join: 5, Places: []int{2, 4}}}, 1},
		{"a way from a place leads behind the join", []api.Region{{At: 1, Join: 4, Places: []int{2, 3}}}, 1},
		{"no join", []api.Region{{At: 1, Join: none, Places: places}}, 1},
		{"nothing at all", []api.Region{{At: 1, Join: none}}, 1},
	} {
		asksOne(t, c.name, changed(fork(), func(f *api.Func) { f.Regions = c.regions }), c.at)
	}
	// With no join the last place is among them, so that its Env must be above K.
	secret := changed(fork(), func(f *api.Func) {
		f.Regions = []api.Region{{At: 1, Join: none, Places: []int{2, 3, 4, 5}}}
		f.Points[5].Env = lA
	})
	asksOne(t, "without a join", secret, nowhere)
	secret.Points[5].Env = lO
	asksOne(t, "without a join, the last Env isn't above K", secret, 1)
	// A region may have more Places than it must, as long as it holds.
	more := changed(fork(), func(f *api.Func) {
		f.Code = append(f.Code, op(api.OpReturn))
		f.Points = append(f.Points, f.Points[5])
		f.Code[5] = op(api.OpJump, 6)
		f.Regions[0].Join, f.Regions[0].Places = 6, []int{2, 3, 4, 5}
	})
	more.Points[5].Env = lA
	asksOne(t, "up to a later join", more, nowhere)
	more.Points[5].Env = lB
	asksOne(t, "up to a later join, one more Env isn't above K", more, 1)
}

// TestLeavesRegion (P17.1): the calls that raise are told to layer 16: if one leaves the function within the region, there is no join.
func TestLeavesRegion(t *testing.T) {
	for _, exc := range append(labels, none) {
		f := fork()
		called := fun(lO, integer(lAB), integer(lO), lAB, exc)
		f.Caps, f.Slots, f.Exc = list(called), 2, lAB
		f.Code = []api.Ins{op(api.OpLoad), op(api.OpUnless, 6), op(api.OpLoad, 1), op(api.OpInt), op(api.OpCall), op(api.OpJump, 7), op(api.OpInt), op(api.OpReturn)}
		k, top := fun(lA, integer(lAB), integer(lO), lAB, exc), integer(lAB)
		f.Points = nil
		for at, stack := range [][]api.Type{nil, list(boolean(lA)), nil, list(k), list(k, top), list(top), nil, list(top)} {
			f.Points = append(f.Points, api.Point{Stack: stack, Slots: list(boolean(lA), called), Env: lO})
			if at > 1 {
				f.Points[at].Env = lAB
			}
		}
		f.Points[2].Env, f.Points[3].Env, f.Points[4].Env = lA, lA, lA
		f.Points[4].Stack = list(k, integer(lA))
		f.Result = integer(lAB)
		f.Regions = []api.Region{{At: 1, Join: 7, Places: []int{2, 3, 4, 5, 6}}, {At: 4, Join: none, Places: []int{5, 7}}}
		name := fmt.Sprint("Exc ", exc)
		if exc == none {
			asksOne(t, name+" with a join", f, nowhere)
			asksOne(t, name+" with a join alone", changed(f, func(f *api.Func) { f.Regions = f.Regions[:1] }), nowhere)
			continue
		}
		asksOne(t, name+" with a join", f, 1)
		open := changed(f, func(f *api.Func) {
			f.Regions[0].Join, f.Regions[0].Places = none, []int{2, 3, 4, 5, 6, 7}
		})
		asksOne(t, name+" without a join", open, nowhere)
		asksOne(t, name+" without a region of the call", changed(open, func(f *api.Func) { f.Regions = f.Regions[:1] }), 4)
		// With a handler ahead of the join nothing leaves; the handler is a way into the region, which must have it.
		caught := changed(f, func(f *api.Func) {
			f.Code[6], f.Points[6].Stack = op(api.OpPop), list(top)
			f.Code[7], f.Points[7].Stack = op(api.OpInt), nil
			f.Code[5], f.Points[5].Stack = op(api.OpJump, 6), list(top)
			f.Code, f.Points = append(f.Code, op(api.OpReturn)), append(f.Points, api.Point{Stack: list(top), Slots: f.Points[7].Slots, Env: lAB})
			f.Code[1].A = 7
			f.Handlers = []api.Handler{{From: 2, To: 5, At: 6}}
			f.Regions = []api.Region{{At: 1, Join: 7, Places: []int{2, 3, 4, 5, 6}}, {At: 4, Join: 6, Places: []int{5}}}
		})
		asksOne(t, name+" with a handler", caught, nowhere)
		asksOne(t, name+" with a handler out of the region", changed(caught, func(f *api.Func) {
			f.Regions[0].Places = []int{2, 3, 4, 5}
		}), 1)
	}
}

// TestNoRegionNeeded (P17.1): where there is no K, regions may be anything that is well formed.
func TestNoRegionNeeded(t *testing.T) {
	f := long(8)
	for at := range 8 {
		f.Regions = append(f.Regions, api.Region{At: at, Join: none})
	}
	asksOne(t, "that don't hold", f, nowhere)
	f.Code[6], f.Points[7].Stack = op(api.OpLoad), list(integer(lA))
	f.Code[7], f.Exc = op(api.OpRaise), lA
	asksOne(t, "that don't hold, at an OpRaise", f, nowhere)
	for at := range 6 {
		f.Regions[at].Join = 7
		f.Regions[at].Places = []int{6}
	}
	asksOne(t, "that don't hold, with joins", f, nowhere)
}

// TestPlaceTold (P17.1): what is wrong of a place is told there, whichever thing that is: the instruction, a point or the region; nothing of it is told at another place.
func TestPlaceTold(t *testing.T) {
	wrong := map[string]func(f *api.Func){
		"the instruction": func(f *api.Func) { f.Code[1] = op(api.OpPair) },
		"a point":         func(f *api.Func) { f.Points[2].Slots = list(integer(lA)) },
		"the other point": func(f *api.Func) { f.Points[4].Slots = list(boolean(lO)) },
		"no region":       func(f *api.Func) { f.Regions = nil },
		"an Env":          func(f *api.Func) { f.Points[4].Env = lB },
		"a region":        func(f *api.Func) { f.Regions = []api.Region{{At: 1, Join: none}} },
	}
	for name, change := range wrong {
		f := changed(fork(), change)
		asksOne(t, name, f, 1)
		for other, also := range wrong {
			asksOne(t, name+" and "+other, changed(f, also), 1)
		}
		asksOne(t, name+", and what is ahead", changed(f, func(f *api.Func) { f.Code[0] = op(api.OpInt) }), 0)
		asksOne(t, name+", and what is behind", changed(f, func(f *api.Func) { f.Code[4] = op(api.OpBool) }), 1)
	}
}
