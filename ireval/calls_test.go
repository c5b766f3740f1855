package ireval_test

import (
	"testing"

	"palisade/api"
	"palisade/ir"
)

// TestCall (P12.1): Op 11: a function's slots are what it is given, and then what its Fun captured; into Dst goes what it gives.
func TestCall(t *testing.T) {
	for _, v := range values() {
		ask(v, nil, function(2, closure(1, 1), call(2, 1, 0)), function(0)).tells(t, "returned "+text(v)+",,, 2")
		ask(v, nil, function(2, closure(1, 1, 0), call(2, 1, 1)), capturing(1, 1)).tells(t, "returned "+text(v)+",,, 2")
	}
	three := capturing(3, 9, couple(8, 0, 1), couple(9, 2, 3), couple(9, 8, 9))
	main := function(4, number(1, 7), number(2, 8), closure(3, 1, 0, 1, 2), call(4, 3, 2))
	ask(integer(4), nil, main, three).tells(t, "returned p[p[8 4] p[7 8]],,, 7")
	// A Fun that is given, and one out of a cell.
	given := fun(1, integer(1), boolean(1), ref(0))
	ask(given, nil, function(1, call(1, 0, 0)), three).tells(t, "returned p[p["+text(given)+" 1] p[true r0]],,, 4")
	ask(ref(0), cells(given), function(1, get(1, 0), call(1, 1, 0)), three).tells(t, "returned p[p[r0 1] p[true r0]],, "+text(given)+", 5")
	// Dst may be what is called, or what it is given.
	ask(given, nil, function(0, call(0, 0, 0)), capturing(3, 2)).tells(t, "returned true,,, 1")
}

// TestOwnSlots (P12.1): a call's slots are its own: neither what the caller had nor what an earlier call had is there, and what it does with them isn't seen.
func TestOwnSlots(t *testing.T) {
	main := function(5, number(5, 1), number(6, 2), closure(1, 1), call(2, 1, 0), couple(5, 5, 6))
	ask(integer(4), nil, main, function(5, number(5, 7), number(6, 8), number(0, 9))).tells(t, "returned p[1 2],,, 8")
	ask(integer(4), nil, main, function(5)).tells(t, "stuck,,, 4")
	ask(integer(4), nil, main, function(5, move(5, 6))).tells(t, "stuck,,, 5")
	// The second call of a function that has set a slot in the first one.
	twice := function(3, truth(4, 1), closure(1, 1), call(2, 1, 4), truth(4, 0), call(3, 1, 4))
	ask(integer(4), nil, twice, function(5, choice(0, list(number(5, 3)), nil))).tells(t, "stuck,,, 8")
	ask(integer(4), nil, twice, function(5, choice(0, list(number(5, 3)), list(number(5, 6))))).tells(t, "returned 6,,, 9")
	// A function that changes what it captured finds it as it was when it is called again.
	counter := capturing(1, 1, number(2, 1), reckon(1, api.OpAdd, 1, 2))
	ask(integer(4), nil, function(4, closure(1, 1, 0), call(2, 1, 0), call(3, 1, 0), couple(4, 2, 3)), counter).tells(t, "returned p[5 5],,, 8")
	ask(fun(1, integer(4)), nil, function(4, call(2, 0, 0), call(3, 0, 2), couple(4, 2, 3)), counter).tells(t, "returned p[5 5],,, 7")
}

// TestCallsWithin (P12.1): calls within calls, within the ways of Ifs and Tries, and what follows them in each.
func TestCallsWithin(t *testing.T) {
	add := function(2, number(1, 1), reckon(2, api.OpAdd, 0, 1))
	twice := function(3, closure(1, 2), call(2, 1, 0), out(0, 2), call(3, 1, 2), out(1, 3))
	ask(integer(4), nil, function(3, closure(1, 1), call(2, 1, 0), call(3, 1, 2)), twice, add).tells(t, "returned 8, 5 ^6 7 ^8,, 21")
	inWays := function(4, truth(1, 1), closure(2, 2), choice(1, list(call(3, 2, 0), out(0, 3)), nil), try(4, list(call(4, 2, 3), out(0, 4)), nil), out(1, 4))
	ask(integer(4), nil, inWays, twice, add).tells(t, "returned 6, 5 6 ^6,, 13")
	// What is called is what a call gives.
	chooser := function(1, choice(0, list(closure(1, 3)), list(closure(1, 2))))
	main := function(5, closure(1, 1), truth(2, 0), call(3, 1, 2), call(4, 3, 0), truth(2, 1), call(3, 1, 2), call(5, 3, 4))
	ask(integer(4), nil, main, chooser, add, function(1, reckon(1, api.OpMul, 0, 0))).tells(t, "returned 25,,, 14")
	// Cells are those of all functions.
	ask(integer(4), nil, function(3, cell(1, 0, 0), closure(2, 1), call(2, 2, 1), get(3, 1)), function(0, truth(1, 1), set(0, 1), cell(2, 1, 1))).tells(t, "returned true,, true ^true, 7")
}

// counting calls itself, till it is given less than 1; then it gives what it captured.
func counting() ir.Fn {
	return capturing(1, 6,
		number(2, 1), reckon(3, api.OpLess, 0, 2),
		choice(3, list(move(6, 1)), list(self(4), reckon(5, api.OpSub, 0, 2), call(6, 4, 5))))
}

// TestSelf (P12.1): Op 10: the Fun that was called, with what it captured; in function 0, with which the run begins, a Fun of 0 without Parts.
func TestSelf(t *testing.T) {
	alone{integer(4), 1, list(self(1)), "returned f0[],,, 1"}.tells(t)
	alone{integer(4), 0, list(self(0)), "returned f0[],,, 1"}.tells(t)
	ask(integer(4), nil, function(2, closure(1, 2, 0, 0), call(2, 1, 0)), function(0), capturing(2, 3, self(3))).tells(t, "returned f2[4 4],,, 3")
	// Changed slots change nothing of it.
	ask(integer(4), nil, function(2, closure(1, 1, 0), call(2, 1, 0)), capturing(1, 3, number(0, 9), number(1, 9), self(3))).tells(t, "returned f1[4],,, 5")
	ask(integer(3), nil, function(2, closure(1, 1, 0), call(2, 1, 0)), counting()).tells(t, "returned 3,,, 24")
	// In a function it is its own, also behind a call of another one, and that one's is that one's.
	inner, outer := function(1, self(1)), function(5, closure(1, 2), call(2, 1, 0), self(3), couple(5, 2, 3))
	ask(integer(4), nil, function(3, closure(1, 1), call(2, 1, 0), self(4), couple(3, 2, 4)), outer, inner).tells(t, "returned p[p[f2[] f1[]] f0[]],,, 9")
	// Function 0 calls itself by it.
	down := function(3, number(1, 1), reckon(2, api.OpLess, 0, 1), choice(2, list(move(3, 0)), list(out(0, 0), self(4), reckon(5, api.OpSub, 0, 1), call(3, 4, 5))))
	ask(integer(2), nil, down).tells(t, "returned 0, 2 1,, 18")
}

// TestCapturingMain (P12.1): a function 0 that captures has nothing of that when the run begins; by a Fun it is called like any other, and its own Fun is that one.
func TestCapturingMain(t *testing.T) {
	main := func(body ...ir.Node) ir.Fn { return capturing(2, 3, body...) }
	ask(integer(4), nil, main(number(3, 1))).tells(t, "returned 1,,, 1")
	ask(integer(4), nil, main(self(3))).tells(t, "returned f0[],,, 1")
	for _, slot := range []int{1, 2} {
		ask(integer(4), nil, main(move(3, slot))).tells(t, "stuck,,, 1")
	}
	ask(integer(4), nil, main(self(4), call(3, 4, 0))).tells(t, "stuck,,, 2")
	// What the cell holds tells the first call, which calls on by the Fun that is there, from the second.
	byCell := main(get(4, 0), first(5, 4), choice(5, list(second(6, 4), truth(7, 0), number(8, 1), couple(8, 7, 8), set(0, 8), call(3, 6, 0)), list(self(8), couple(7, 1, 2), couple(3, 8, 7))))
	ask(ref(0), cells(pair(boolean(1), fun(0, integer(6), boolean(1)))), byCell).tells(t, "returned p[f0[6 true] p[6 true]],, p[false 1], 15")
}

// TestRaiseThroughCalls (P12.1): what is raised goes up through calls to the last Try that is begun, and on behind that; without one the run ends.
func TestRaiseThroughCalls(t *testing.T) {
	fails := function(1, out(0, 0), raise(0))
	divides := function(1, number(1, 0), reckon(1, api.OpMod, 0, 1))
	through := function(3, closure(1, 2), call(3, 1, 0), out(1, 0))
	main := function(3, closure(1, 1), try(3, list(call(2, 1, 0), out(1, 0)), list(number(4, 1), reckon(3, api.OpAdd, 3, 4))), out(0, 3))
	ask(integer(4), nil, main, through, fails).tells(t, "returned 5, 4 5,, 10")
	ask(integer(4), nil, main, through, divides).tells(t, "returned 1, 1,, 10")
	ask(integer(4), nil, main, fails).tells(t, "returned 5, 4 5,, 8")
	bare := function(3, closure(1, 1), call(3, 1, 0), out(1, 0))
	ask(integer(4), nil, bare, through, fails).tells(t, "raised 4, 4,, 6")
	ask(integer(4), nil, bare, through, divides).tells(t, "raised 0,,, 6")
	// The one that is called takes it, or the one between; their callers go on as if nothing were.
	takes := function(3, closure(1, 2), try(3, list(call(3, 1, 0)), list(out(1, 3))))
	ask(integer(4), nil, bare, takes, fails).tells(t, "returned 4, 4 ^4 ^4,, 9")
	ask(integer(4), nil, main, takes, fails).tells(t, "stuck, 4 ^4 ^4,, 11") // Into the Dst of main's Try nothing went.
}

// TestSlotsOfTries (P12.1): the Dst that is filled is that of the function whose Try it is, and Else reads that one's slots.
func TestSlotsOfTries(t *testing.T) {
	fails := function(none, number(2, 7), number(3, 9), raise(3))
	main := function(5, number(2, 1), number(3, 2), closure(4, 1), try(5, list(call(6, 4, 0)), list(couple(6, 2, 3), couple(5, 5, 6))))
	ask(integer(4), nil, main, fails).tells(t, "returned p[9 p[1 2]],,, 10")
	// Into the Dst of the call nothing went.
	gone := function(6, closure(4, 1), try(5, list(call(6, 4, 0)), nil))
	ask(integer(4), nil, gone, fails).tells(t, "stuck,,, 6")
	kept := function(6, number(6, 3), closure(4, 1), try(5, list(call(6, 4, 0)), nil))
	ask(integer(4), nil, kept, fails).tells(t, "returned 3,,, 7")
	// A Try whose Body has ended by a call takes nothing of later calls.
	late := function(2, closure(1, 1), closure(4, 2), try(5, list(call(2, 1, 0)), list(out(1, 5))), call(3, 4, 0))
	ask(integer(4), nil, late, function(0), fails).tells(t, "raised 9,,, 8")
}
