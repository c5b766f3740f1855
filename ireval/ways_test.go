package ireval_test

import (
	"testing"

	"palisade/api"
	"palisade/ir"
)

// TestIf (P12.1): Op 16: one of both ways is gone, the other one not at all; then it goes on behind.
func TestIf(t *testing.T) {
	yes, no := list(number(1, 1), out(0, 1)), list(number(1, 2), out(1, 1))
	alone{boolean(1), 1, list(choice(0, yes, no)), "returned 1, 1,, 3"}.tells(t)
	alone{boolean(0), 1, list(choice(0, yes, no)), "returned 2, ^2,, 3"}.tells(t)
	alone{boolean(1), 1, list(choice(0, yes, no), out(0, 1), choice(0, no, yes)), "returned 2, 1 1 ^2,, 7"}.tells(t)
	alone{boolean(1), 0, list(choice(0, nil, yes)), "returned true,,, 1"}.tells(t)
	alone{boolean(0), 0, list(choice(0, yes, nil)), "returned false,,, 1"}.tells(t)
	alone{boolean(1), 0, list(choice(0, nil, nil), choice(0, list(), list())), "returned true,,, 2"}.tells(t)
	alone{boolean(1), 1, list(choice(0, list(choice(0, no, yes), out(0, 1)), no)), "returned 2, ^2 2,, 5"}.tells(t)
	alone{boolean(0), 1, list(choice(0, yes, list(not(0, 0), choice(0, yes, no)))), "returned 1, 1,, 5"}.tells(t)
	// What it is asked of may be changed within.
	alone{boolean(1), 0, list(choice(0, list(truth(0, 0)), list(number(0, 9)))), "returned false,,, 2"}.tells(t)
	// Slots that were set on a way are so behind it, and those of the other one aren't.
	alone{boolean(1), 3, list(choice(0, list(number(2, 5)), list(number(1, 6))), move(3, 2)), "returned 5,,, 3"}.tells(t)
	alone{boolean(0), 3, list(choice(0, list(number(2, 5)), list(number(1, 6))), move(3, 2)), "stuck,,, 3"}.tells(t)
	alone{boolean(1), 0, list(number(1, 8), choice(0, list(raise(1)), nil), out(0, 1)), "raised 8,,, 3"}.tells(t)
}

// TestTry (P12.1): Op 17: where Body raises, that goes into Dst, and Else is done; else neither.
func TestTry(t *testing.T) {
	fails := list(number(2, 8), out(0, 2), raise(2), out(1, 2))
	alone{integer(4), 1, list(try(1, fails, list(out(1, 1)))), "returned 8, 8 ^8,, 5"}.tells(t)
	alone{integer(4), 1, list(try(1, fails, nil), out(0, 1), out(0, 0)), "returned 8, 8 8 4,, 6"}.tells(t)
	alone{integer(4), 1, list(number(1, 3), try(1, list(out(0, 1)), list(out(0, 0)))), "returned 3, 3,, 3"}.tells(t)
	alone{integer(4), 2, list(try(1, list(out(0, 0)), list(out(1, 0))), move(2, 1)), "stuck, 4,, 3"}.tells(t)
	alone{integer(4), 0, list(try(1, nil, list(raise(0)))), "returned 4,,, 1"}.tells(t)
	alone{integer(4), 0, list(try(1, nil, nil), try(1, list(), list())), "returned 4,,, 2"}.tells(t)
	// By 0 a division raises 0.
	for _, op := range []int{api.OpDiv, api.OpMod} {
		alone{integer(0), 1, list(number(1, 5), try(1, list(reckon(2, op, 1, 0)), list(number(3, 7), reckon(1, api.OpAdd, 1, 3)))), "returned 7,,, 5"}.tells(t)
	}
	// What is raised may be what stands in Dst already, and Dst may be what is raised.
	alone{integer(4), 0, list(try(0, list(raise(0)), list(out(0, 0)))), "returned 4, 4,, 3"}.tells(t)
	// What Body has set is so in Else and behind, also what it had already.
	alone{integer(4), 3, list(number(2, 1), try(1, list(number(2, 6), number(3, 7), raise(0)), list(out(0, 2), out(0, 3))), reckon(3, api.OpAdd, 2, 3)), "returned 13, 6 7,, 8"}.tells(t)
	// Cells and events that Body has made stay.
	alone{integer(4), 1, list(try(1, list(cell(2, 0, 1), out(1, 0), set(2, 2), raise(0)), nil)), "returned 4, ^4, ^r0, 5"}.tells(t)
}

// TestTries (P12.1): within one another, and behind one another: the last one that is begun, and whose Body isn't over, takes what is raised.
func TestTries(t *testing.T) {
	fails := func(n int64) []ir.Node { return list(number(9, n), raise(9)) }
	inner := try(1, fails(5), list(out(0, 1)))
	alone{integer(4), 1, list(try(2, list(inner, out(1, 1)), list(out(1, 2)))), "returned 5, 5 ^5,, 6"}.tells(t)
	// Else isn't in its own Try, but in the one around it.
	again := try(1, fails(5), fails(6))
	alone{integer(4), 1, list(again), "raised 6,,, 5"}.tells(t)
	alone{integer(4), 2, list(try(2, list(again), list(out(0, 1), out(0, 2)))), "returned 6, 5 6,, 8"}.tells(t)
	// Behind a Try nothing is taken any more.
	alone{integer(4), 1, list(try(1, list(number(2, 3)), list(out(0, 0))), raise(0)), "raised 4,,, 3"}.tells(t)
	alone{integer(4), 1, list(inner, raise(0)), "raised 4, 5,, 5"}.tells(t)
	alone{integer(4), 2, list(try(2, list(inner, raise(0)), list(out(1, 2)))), "returned 4, 5 ^4,, 7"}.tells(t)
	alone{integer(4), 2, list(try(2, list(try(1, nil, list(out(0, 0))), raise(0)), list(out(1, 2)))), "returned 4, ^4,, 4"}.tells(t)
	// Out of the ways of Ifs, and ahead of what follows them.
	deep := list(truth(3, 1), choice(3, list(choice(3, fails(7), nil), out(0, 0)), nil), out(0, 0))
	alone{integer(4), 1, list(try(1, deep, list(out(0, 1))), out(1, 1)), "returned 7, 7 ^7,, 8"}.tells(t)
	alone{integer(4), 1, deep, "raised 7,,, 5"}.tells(t)
	alone{integer(4), 2, list(truth(3, 0), choice(3, nil, list(try(1, list(choice(3, nil, fails(5))), list(move(2, 1))), out(0, 2))), out(1, 2)), "returned 5, 5 ^5,, 9"}.tells(t)
	// A Try within an Else.
	alone{integer(4), 3, list(try(1, fails(5), list(try(2, fails(6), list(couple(3, 1, 2)))))), "returned p[5 6],,, 7"}.tells(t)
}

// TestRaise (P12.1): Op 18: nothing that follows is done.
func TestRaise(t *testing.T) {
	alone{integer(4), 0, list(raise(0)), "raised 4,,, 1"}.tells(t)
	alone{integer(-4), none, list(out(0, 0), raise(0), out(1, 0)), "raised -4, -4,, 2"}.tells(t)
	alone{integer(4), 0, list(cell(1, 0, 0), raise(0)), "raised 4,, 9 ^8 4, 2"}.tells(t, integer(9), integer(8))
}

// TestNoOtherEnd (P12.1): what is Stuck, Exhausted or out of fuel is taken by no Try, and nothing more is done.
func TestNoOtherEnd(t *testing.T) {
	around := func(n ir.Node) []ir.Node {
		return list(out(0, 1), try(2, list(out(0, 1), n, out(0, 1)), list(out(1, 1))), out(1, 1))
	}
	ask(sized(2000), nil, function(1, append(list(number(1, 6)), around(first(3, 0))...)...)).tells(t, "stuck, 6 6,, 5")
	ask(sized(2000), nil, function(1, append(list(number(1, 6)), around(couple(3, 0, 1))...)...)).tells(t, "exhausted, 6 6,, 5")
	ask(sized(2000), nil, function(1, append(list(number(1, 6)), around(couple(3, 0, 1))...)...)).with(4).tells(t, "out of fuel, 6 6,, 4")
	ask(sized(2000), nil, function(1, append(list(number(1, 6)), around(call(3, 0, 1))...)...), capturing(3, 0)).tells(t, "stuck, 6 6,, 5")
}
