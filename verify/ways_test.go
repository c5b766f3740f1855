package verify_test

import (
	"fmt"
	"testing"

	"palisade/api"
)

// changed is f in memory of its own, with that change.
func changed(f api.Func, change func(f *api.Func)) api.Func {
	f = roomy(f)
	change(&f)
	return f
}

// asksOne asks for the answer of a class of sets with that function alone: the place that is refused, or nowhere.
func asksOne(t *testing.T, name string, f api.Func, at int) {
	t.Helper()
	want := refusedAt(0, at)
	if at == nowhere {
		want = accepted
	}
	asks(t, name, classOf(sets(), f), want)
}

const nowhere = -1

// fork is an accepted function: it gives 1 or 2, as it is given true or false. Its places behind the branch, up to where both ways meet, have the label A.
func fork() api.Func {
	slots := list(boolean(lA))
	return api.Func{
		Param: boolean(lA), Result: integer(lA), Heap: lO, Exc: none, Slots: 1,
		Code: []api.Ins{op(api.OpLoad), op(api.OpUnless, 4), op(api.OpInt, 1), op(api.OpJump, 5), op(api.OpInt, 2), op(api.OpReturn)},
		Points: []api.Point{
			{Slots: slots, Env: lO}, {Stack: list(boolean(lA)), Slots: slots, Env: lO}, {Slots: slots, Env: lA},
			{Stack: list(integer(lA)), Slots: slots, Env: lA}, {Slots: slots, Env: lA}, {Stack: list(integer(lA)), Slots: slots, Env: lO},
		},
		Regions: []api.Region{{At: 1, Join: 5, Places: []int{2, 3, 4}}},
	}
}

// TestWays (P17.1): the state fits the point of the next place, of an OpJump of A, of an OpUnless of both; if not, the place is told that goes there, the first one of several.
func TestWays(t *testing.T) {
	asksOne(t, "as it is", fork(), nowhere)
	for at, told := range map[int]int{1: 0, 2: 1, 3: 2, 4: 1, 5: 3} {
		for _, c := range []struct {
			name string
			slot api.Type
			told int
		}{
			{"another Kind", integer(lA), told}, {"less", boolean(lO), told}, {"unlike", boolean(lB), told},
			{"the same", boolean(lA), nowhere}, {"more", boolean(lAB), nowhere}, {"none", api.Type{}, nowhere},
		} {
			f := fork()
			for behind := at + 1; behind < len(f.Points); behind++ {
				f.Points[behind].Slots = list(api.Type{})
			}
			f.Points[at].Slots = list(c.slot)
			asksOne(t, fmt.Sprint(c.name, " at ", at), f, c.told)
		}
	}
}

// TestJumpsPast (P17.1): a jump's next place is asked nothing, A is; at an OpUnless it is both.
func TestJumpsPast(t *testing.T) {
	// The place 4 follows the jump at 3, but is come to from 1 alone, and has nothing on its stack.
	asksOne(t, "a jump", changed(fork(), func(f *api.Func) { f.Code[3].A = 5 }), nowhere)
	asksOne(t, "a jump to the next place", changed(fork(), func(f *api.Func) { f.Code[3].A = 4 }), 3)
	for _, c := range []struct {
		name         string
		next, target api.Type
		at           int
	}{
		{"both fit", boolean(lA), boolean(lAB), nowhere},
		{"the next one doesn't", boolean(lB), boolean(lA), 1},
		{"the other one doesn't", boolean(lA), boolean(lO), 1},
		{"neither does", boolean(lO), boolean(lB), 1},
		{"the next one has none", api.Type{}, boolean(lA), nowhere},
		{"the other one has none", boolean(lA), api.Type{}, nowhere},
	} {
		asksOne(t, c.name, changed(fork(), func(f *api.Func) {
			f.Points[2].Slots, f.Points[4].Slots = list(c.next), list(c.target)
			f.Points[3].Slots, f.Points[5].Slots = list(api.Type{}), list(api.Type{})
		}), c.at)
	}
	for _, at := range []int{2, 4} {
		asksOne(t, fmt.Sprint("more on the stack at ", at), changed(fork(), func(f *api.Func) { f.Points[at].Stack = list(integer(lA)) }), 1)
	}
}

// TestLeftAtBranch (P17.1): what is left on the stack at an OpUnless is raised by K on both ways.
func TestLeftAtBranch(t *testing.T) {
	f := fork()
	f.Code = []api.Ins{op(api.OpInt), op(api.OpLoad), op(api.OpUnless, 5), op(api.OpInt), op(api.OpJump, 6), op(api.OpInt), op(api.OpAdd), op(api.OpReturn)}
	f.Regions = []api.Region{{At: 2, Join: 6, Places: []int{3, 4, 5}}}
	f.Points = nil
	one, two := list(integer(lA)), list(integer(lA), integer(lA))
	for at, stack := range [][]api.Type{nil, list(integer(lO)), list(integer(lO), boolean(lA)), one, two, one, two, one} {
		p := api.Point{Stack: stack, Slots: list(boolean(lA)), Env: lO}
		if at >= 3 && at <= 5 {
			p.Env = lA
		}
		f.Points = append(f.Points, p)
	}
	asksOne(t, "raised", f, nowhere)
	for _, at := range []int{3, 5} {
		asksOne(t, fmt.Sprint("not raised at ", at), changed(f, func(f *api.Func) { f.Points[at].Stack[0].Label = lO }), 2)
		asksOne(t, fmt.Sprint("raised otherwise at ", at), changed(f, func(f *api.Func) { f.Points[at].Stack[0].Label = lB }), 2)
	}
}

// TestHandlers (P17.1): the first handler that holds the place takes what is raised there; if none does, Exc must be above it.
func TestHandlers(t *testing.T) {
	// 1 raises; 2 to 4 take off what they are given, as 5 does, and return.
	base := api.Func{
		Param: integer(lA), Result: integer(lAB), Heap: lO, Exc: none, Slots: 1,
		Code: []api.Ins{op(api.OpLoad), op(api.OpRaise), op(api.OpReturn), op(api.OpReturn), op(api.OpReturn), op(api.OpReturn)},
	}
	for at := range base.Code {
		p := api.Point{Stack: list(integer(lAB)), Slots: list(integer(lA)), Env: lB}
		if at == 0 {
			p.Stack = nil
		}
		base.Points = append(base.Points, p)
	}
	// What doesn't fit is at 3, for its stack, and at 4, for its slots.
	base.Points[3].Stack, base.Points[4].Slots = list(integer(lA)), list(integer(lO))
	for _, c := range []struct {
		name     string
		exc      int
		handlers []api.Handler
		at       int
	}{
		{"none, and no Exc", none, nil, 1},
		{"none, with an Exc above", lAB, nil, nowhere},
		{"none, with an Exc that isn't", lB, nil, 1},
		{"one", none, []api.Handler{{From: 0, To: 2, At: 2}}, nowhere},
		{"of that place alone", none, []api.Handler{{From: 1, To: 2, At: 5}}, nowhere},
		{"at a lesser stack", lAB, []api.Handler{{From: 1, To: 2, At: 3}}, 1},
		{"at a lesser slot", lAB, []api.Handler{{From: 1, To: 2, At: 4}}, 1},
		{"that ends ahead of it", none, []api.Handler{{From: 0, To: 1, At: 2}}, 1},
		{"that begins behind it", none, []api.Handler{{From: 2, To: 3, At: 5}}, 1},
		{"around it", lAB, []api.Handler{{From: 0, To: 1, At: 4}, {From: 2, To: 3, At: 4}}, nowhere},
		{"the first of two", none, []api.Handler{{From: 0, To: 2, At: 2}, {From: 1, To: 2, At: 3}}, nowhere},
		{"the second of two", none, []api.Handler{{From: 0, To: 2, At: 3}, {From: 1, To: 2, At: 2}}, 1},
		{"the second, as the first doesn't hold it", none, []api.Handler{{From: 0, To: 1, At: 3}, {From: 1, To: 2, At: 2}}, nowhere},
	} {
		f := roomy(base)
		f.Exc, f.Handlers = c.exc, c.handlers
		asksOne(t, c.name, f, c.at)
	}
	// What doesn't raise is asked nothing of its handler.
	f := roomy(base)
	f.Code[1], f.Handlers = op(api.OpReturn), []api.Handler{{From: 0, To: 3, At: 3}}
	asksOne(t, "of what doesn't raise", f, nowhere)
	f.Code[2] = op(api.OpRaise)
	asksOne(t, "of what doesn't, and what does", f, 2)
	f.Handlers[0].To, f.Exc = 2, lAB
	asksOne(t, "of what doesn't raise, beside what does", f, nowhere)
}

// TestRaisesNothing (P17.1): where nothing raises, Exc and the handler are asked nothing: of an OpCall of a Fun without Exc, and of all else.
func TestRaisesNothing(t *testing.T) {
	x := called(lO, lO, lAB, none, integer(lA))
	x.exc, x.regions = none, []api.Region{}
	x.behind = refState{list(boolean(lO)), x.slots}
	x.is(t, "without a handler", true)
	x.handler = &refState{list(boolean(lO), boolean(lO)), list(boolean(lO))}
	x.is(t, "with a handler that takes no Int", true)
	x.stack = list(relabelled(x.stack[0], lO), integer(lA))
	x.stack[0].Exc = lO
	x.regions = nil
	x.is(t, "but if it raises", false)
}
