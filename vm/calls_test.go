package vm_test

import (
	"fmt"
	"slices"
	"testing"

	"palisade/api"
)

// TestCalls (P18.1): a call begins the Fun's function at place 0, with slot 0 having what is given, those behind it the Parts, and none in all others; OpReturn puts its value on the caller's stack, which goes on behind the call.
func TestCalls(t *testing.T) {
	call4 := []api.Ins{given, number(7), closes(1), number(9), call}
	main := function(joined(call4, give)...)
	for slot, want := range map[int64]string{0: "returned 9,,, 8", 1: "returned 4,,, 8", 2: "returned 7,,, 8", 3: "stuck,,, 6", 9: "stuck,,, 6"} {
		ask(integer(4), nil, main, capturing(2, load(slot), pop, number(0), give)).fuel(6).tells(t, map[bool]string{true: "stuck,,, 6", false: "out of fuel,,, 6"}[slot > 2])
		ask(integer(4), nil, main, capturing(2, load(slot), give)).tells(t, want)
	}
	// What lies below stays, and is none of the called function's.
	below := function(joined(joined([]api.Ins{truth(1)}, call4...), couple, give)...)
	ask(integer(4), nil, below, capturing(2, load(1), give)).tells(t, "returned p[true 4],,, 10")
	ask(integer(4), nil, below, capturing(2, pop, given, give)).tells(t, "stuck,,, 7")
	// The caller's slots are as they were, whatever the called function stores.
	ask(integer(4), nil, function(number(6), store(1), closes(1), number(9), call, given, couple, load(1), couple, give), function(number(3), store(0), number(5), store(1), given, load(1), couple, give)).
		tells(t, "returned p[p[p[3 5] 4] 6],,, 18")
	// What is captured may be stored anew, and the next call has it as it was.
	twice := function(given, closes(1), store(1), load(1), number(1), call, load(1), number(1), call, couple, give)
	ask(integer(4), nil, twice, capturing(1, load(1), number(8), store(1), load(1), couple, give)).tells(t, "returned p[p[4 8] p[4 8]],,, 23")
	// What is given may be of any Kind, the Fun of a cell, or the argument.
	for _, v := range values() {
		ask(v, nil, function(closes(1), given, call, give), function(given, give)).tells(t, "returned "+text(v)+",,, 6")
	}
	ask(fun(1, integer(3)), nil, function(given, number(2), call, give), capturing(1, load(1), given, couple, give)).tells(t, "returned p[3 2],,, 8")
	ask(ref(0), cells(fun(1, integer(3))), function(given, get, number(2), call, give), capturing(1, load(1), given, couple, give)).tells(t, "returned p[3 2],, f1[3], 9")
}

// TestCallsWithin (P18.1): calls in calls; each frame goes on where it was; cells and events are those of all.
func TestCallsWithin(t *testing.T) {
	inc := function(given, number(1), add, give)
	twice := function(closes(2), given, call, store(1), load(1), out(0), closes(2), load(1), call, store(1), load(1), out(1), load(1), give)
	main := function(closes(1), given, call, store(1), closes(1), load(1), call, give)
	ask(integer(4), nil, main, twice, inc).tells(t, "returned 8, 5 ^6 7 ^8,, 52")
	ask(integer(4), nil, function(given, cell(0), store(1), closes(1), load(1), call, pop, load(1), get, give), function(given, truth(1), set, given, cell(1), give)).tells(t, "returned true,, true ^r0, 16")
	// What is called is what a call gives; function 0 is called like any other, also by a Fun that captured something.
	ask(integer(4), nil, function(closes(1), given, call, given, call, give), function(closes(2), give), function(given, given, couple, give)).tells(t, "returned p[4 4],,, 12")
	again := capturing(1, given, number(9), op(api.OpLess), unless(9), given, closes(0), number(9), call, give, load(1), give)
	ask(integer(4), nil, again).tells(t, "returned 4,,, 15")
	// Down to 0, one frame in another, and up again.
	down := function(given, number(1), op(api.OpLess), not, unless(13), self, given, number(1), op(api.OpSub), call, given, add, give, number(0), give)
	ask(integer(4), nil, down).tells(t, "returned 10,,, 59")
	ask(integer(99), nil, down).tells(t, "returned 4950,,, 1294")
	ask(integer(100), nil, down).tells(t, "exhausted,,, 1000")
}

// TestStrangeFun (P18.1): a Fun of no function's number, or of fewer or more Parts than that has Caps.
func TestStrangeFun(t *testing.T) {
	funcs := []api.Func{function(given, number(6), call, give), function(given, give), capturing(1, given, give), capturing(2, given, give)}
	for n := range int64(api.MaxFuncs) {
		for parts := range 4 {
			q := ask(fun(n, slices.Repeat([]api.Value{integer(6)}, parts)...), nil, funcs...)
			switch {
			case n >= 1 && n <= 3 && parts == int(n)-1:
				q.tells(t, "returned 6,,, 6")
			case n == 0 && parts == 0: // it calls 6 then
				q.tells(t, "stuck,,, 6")
			default:
				q.tells(t, "stuck,,, 3")
				q.fuel(3).tells(t, "stuck,,, 3")
				q.fuel(2).tells(t, "out of fuel,,, 2")
				q.frames(1).tells(t, "stuck,,, 3") // that there is no frame left isn't asked
			}
		}
	}
	// As many functions as there may be.
	most := slices.Repeat(funcs[1:2], api.MaxFuncs)
	most[0] = funcs[0]
	ask(fun(59), nil, most...).tells(t, "returned 6,,, 6")
	ask(fun(59), nil, most[:59]...).tells(t, "stuck,,, 3")
	// With as many Parts as it has Caps, function 0 that captures is callable; as it begins it isn't.
	ask(integer(4), nil, capturing(1, self, given, call, give)).tells(t, "stuck,,, 3")
	ask(integer(4), nil, capturing(1, given, closes(0), given, call, give)).frames(2).tells(t, "exhausted,,, 8")
}

// TestNoSlotForGiven (P18.1): a function must have more Slots than Caps, one for what it is given.
func TestNoSlotForGiven(t *testing.T) {
	for caps := range 4 {
		for slots := 1; slots < 6; slots++ {
			code := joined(repeat(caps, given), closes(1), number(6), call, give)
			q := ask(integer(4), nil, function(code...), slotted(capturing(caps, given, give), slots))
			if slots > caps {
				q.tells(t, fmt.Sprintf("returned 6,,, %d", caps+6))
			} else {
				q.tells(t, fmt.Sprintf("stuck,,, %d", caps+3))
				q.frames(1).tells(t, fmt.Sprintf("stuck,,, %d", caps+3))
			}
		}
	}
	// Where the run begins that isn't asked.
	ask(integer(4), nil, slotted(capturing(3, given, give), 1)).tells(t, "returned 4,,, 2")
	// As many Caps as there may be, more than a stack has, may stand in an argument.
	v := fun(1)
	for n := range int64(api.MaxCaps) {
		v.Parts = append(v.Parts, integer(n))
	}
	ask(v, nil, function(given, number(6), call, give), slotted(capturing(16, load(16), load(1), couple, give), 17)).tells(t, "returned p[15 0],,, 8")
	ask(v, nil, function(given, number(6), call, give), slotted(capturing(16, given, give), 16)).tells(t, "stuck,,, 3")
}

// TestFrames (P18.1): with all frames taken a call is Exhausted, with one left it isn't; with 0 nothing is begun.
func TestFrames(t *testing.T) {
	main := function(given, out(0), closes(1), given, call, give)
	q := ask(integer(4), cells(integer(9)), main, function(closes(2), given, call, give), function(given, give))
	q.frames(0).tells(t, "exhausted,, 9, 0")
	q.frames(1).tells(t, "exhausted, 4, 9, 5")
	q.frames(2).tells(t, "exhausted, 4, 9, 8")
	q.frames(3).tells(t, "returned 4, 4, 9, 12")
	q.frames(1<<62).tells(t, "returned 4, 4, 9, 12")
	// Frames that were taken away make room for others, whether they returned or raised.
	two := function(closes(1), given, call, pop, closes(1), given, call, give)
	ask(integer(4), nil, two, function(given, give)).frames(2).tells(t, "returned 4,,, 12")
	ask(integer(4), nil, handled(two, 2, 3, 3), function(given, throw)).frames(2).tells(t, "raised 4,,, 11")
	ask(integer(4), nil, two, function(given, give)).frames(1).tells(t, "exhausted,,, 3")
	// Without a frame nothing else is asked: neither fuel nor whether there is an instruction.
	for _, fuel := range []int{0, 1, api.MaxSteps} {
		ask(integer(4), cells(integer(9), ref(7)), function()).frames(0).fuel(fuel).cells(0).tells(t, "exhausted,, 9 ^r7, 0")
		ask(integer(4), nil, function(given, give)).frames(0).fuel(fuel).tells(t, "exhausted,,, 0")
	}
	// Far more frames than this program's own stack would bear.
	deep := ask(integer(4), nil, function(self, given, call, give)).frames(1 << 40)
	if got := told(deep.run()); got != "out of fuel,,, 65536" {
		t.Error(got)
	}
	if got := told(deep.frames(20000).run()); got != "exhausted,,, 60000" {
		t.Error(got)
	}
}
