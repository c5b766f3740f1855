package vm_test

import (
	"math"
	"strconv"
	"testing"

	"palisade/api"
)

// TestExamples (P18.1): those of the chapter.
func TestExamples(t *testing.T) {
	ask(integer(7), nil, function(given, give)).tells(t, "returned 7,,, 2")
	code(joined(byZero, give)...).tells(t, "raised 0,,, 3")
}

// TestNumbers (P18.1): OpInt, OpBool.
func TestNumbers(t *testing.T) {
	for _, n := range []int64{0, 1, -1, 77, math.MaxInt64, math.MinInt64} {
		code(number(n), give).tells(t, "returned "+text(integer(n))+",,, 2")
	}
	code(truth(0), give).tells(t, "returned false,,, 2")
	code(truth(1), give).tells(t, "returned true,,, 2")
}

// TestSlots (P18.1): OpLoad and OpStore, of values of all Kinds; what is loaded stays, and what was in a slot is gone when another one is stored.
func TestSlots(t *testing.T) {
	for _, v := range values() {
		ask(v, nil, function(given, give)).tells(t, "returned "+text(v)+",,, 2")
		ask(v, nil, function(given, pop, given, give)).tells(t, "returned "+text(v)+",,, 4")
		ask(v, nil, function(given, store(9), load(9), give)).tells(t, "returned "+text(v)+",,, 4")
		ask(v, nil, function(given, store(1), number(3), store(0), load(1), give)).tells(t, "returned "+text(v)+",,, 6")
		ask(v, nil, function(number(3), store(0), given, give)).tells(t, "returned 3,,, 4")
		ask(v, nil, function(given, store(0), given, give)).tells(t, "returned "+text(v)+",,, 4")
	}
	// Each slot is one of its own, in whatever order they are filled.
	code(number(9), store(9), number(3), store(3), number(6), store(6), load(6), load(3), load(9), couple, couple, give).tells(t, "returned p[6 p[3 9]],,, 12")
	code(number(1), store(1), number(2), store(2), truth(1), store(1), load(1), load(2), couple, give).tells(t, "returned p[true 2],,, 10")
	// A stack's value stays when its slot is another one then.
	code(given, number(5), store(0), given, couple, give).tells(t, "returned p[4 5],,, 6")
	ask(integer(4), nil, slotted(function(number(5), store(249), load(249), give), 250)).tells(t, "returned 5,,, 4")
	ask(integer(4), nil, slotted(function(number(5), store(0), load(0), give), 1)).tells(t, "returned 5,,, 4")
}

// TestPop (P18.1): the top is taken, of any Kind, and nothing else.
func TestPop(t *testing.T) {
	for _, v := range values() {
		ask(v, nil, function(number(1), given, pop, give)).tells(t, "returned 1,,, 4")
	}
	code(number(1), number(2), number(3), pop, add, give).tells(t, "returned 3,,, 6")
}

// TestReckon (P18.1): OpAdd to OpSame, the second one on top; by 0 a division raises 0.
func TestReckon(t *testing.T) {
	for _, c := range []struct {
		op   int
		a, b int64
		end  string
	}{
		{api.OpAdd, 2, 3, "returned 5"}, {api.OpAdd, math.MaxInt64, 1, "returned -9223372036854775808"},
		{api.OpSub, 2, 3, "returned -1"}, {api.OpSub, math.MinInt64, 1, "returned 9223372036854775807"},
		{api.OpMul, -4, 3, "returned -12"}, {api.OpMul, math.MaxInt64, 2, "returned -2"},
		{api.OpDiv, 7, 2, "returned 3"}, {api.OpDiv, -7, 2, "returned -3"}, {api.OpDiv, math.MinInt64, -1, "returned -9223372036854775808"}, {api.OpDiv, 0, 7, "returned 0"},
		{api.OpMod, 7, 2, "returned 1"}, {api.OpMod, -7, 2, "returned -1"}, {api.OpMod, math.MinInt64, -1, "returned 0"}, {api.OpMod, 0, 7, "returned 0"},
		{api.OpLess, 2, 3, "returned true"}, {api.OpLess, 3, 3, "returned false"}, {api.OpLess, 3, -3, "returned false"}, {api.OpLess, math.MinInt64, math.MaxInt64, "returned true"},
		{api.OpSame, 3, 3, "returned true"}, {api.OpSame, 3, 2, "returned false"}, {api.OpSame, math.MinInt64, 0, "returned false"},
	} {
		code(number(c.a), number(c.b), op(c.op), give).tells(t, c.end+",,, 4")
		// What lies below is left.
		code(truth(1), number(c.a), number(c.b), op(c.op), pop, give).tells(t, "returned true,,, 6")
	}
	for _, c := range []struct {
		op   int
		a, b int64
	}{{api.OpDiv, 7, 0}, {api.OpDiv, 0, 0}, {api.OpMod, 7, 0}, {api.OpMod, math.MinInt64, 0}} {
		code(number(c.a), number(c.b), op(c.op), give).tells(t, "raised 0,,, 3")
	}
}

// TestNot (P18.1): OpNot.
func TestNot(t *testing.T) {
	code(truth(1), not, give).tells(t, "returned false,,, 3")
	code(truth(0), not, give).tells(t, "returned true,,, 3")
	code(number(3), truth(0), not, not, not, couple, give).tells(t, "returned p[3 true],,, 7")
}

// TestPairs (P18.1): OpPair, OpFirst and OpSecond, with parts of all Kinds.
func TestPairs(t *testing.T) {
	for _, v := range values() {
		ask(v, nil, function(given, number(8), couple, give)).tells(t, "returned p["+text(v)+" 8],,, 4")
		ask(v, nil, function(number(8), given, couple, give)).tells(t, "returned p[8 "+text(v)+"],,, 4")
		ask(pair(v, integer(8)), nil, function(given, first, give)).tells(t, "returned "+text(v)+",,, 3")
		ask(pair(v, integer(8)), nil, function(given, second, give)).tells(t, "returned 8,,, 3")
		ask(pair(integer(8), v), nil, function(given, second, give)).tells(t, "returned "+text(v)+",,, 3")
	}
	code(number(1), number(2), number(3), couple, couple, second, first, give).tells(t, "returned 2,,, 8")
	// What a Pair was made of may be made anew.
	code(given, number(5), couple, store(1), number(6), number(7), couple, pop, load(1), give).tells(t, "returned p[4 5],,, 10")
}

// TestClose (P18.1): OpClose: the Fun of a function, with what it captures in the order in which it was put.
func TestClose(t *testing.T) {
	tells := func(line string, list ...api.Ins) {
		t.Helper()
		ask(integer(4), nil, function(list...), capturing(2), function()).tells(t, line)
	}
	tells("returned f2[],,, 2", closes(2), give)
	tells("returned f0[],,, 2", closes(0), give)
	tells("returned f1[4 7],,, 4", given, number(7), closes(1), give)
	tells("returned p[9 f1[4 7]],,, 6", number(9), given, number(7), closes(1), couple, give)
	tells("returned f1[f1[4 7] f2[]],,, 6", given, number(7), closes(1), closes(2), closes(1), give)
	// It has what was on the stack when it was made.
	tells("returned f1[4 7],,, 8", given, number(7), closes(1), number(5), number(6), couple, pop, give)
	tells("returned p[f1[4 7] p[5 6]],,, 8", given, number(7), closes(1), number(5), number(6), couple, couple, give)
	tells("returned p[f1[1 2] f1[3 4]],,, 8", number(1), number(2), closes(1), number(3), number(4), closes(1), couple, give)
	for _, v := range values() {
		ask(v, nil, function(given, given, closes(1), give), capturing(2)).tells(t, "returned f1["+text(v)+" "+text(v)+"],,, 4")
	}
	// As many as a stack has.
	code := joined(repeat(7, given), truth(1), closes(1), give)
	ask(integer(4), nil, function(code...), capturing(8)).tells(t, "returned f1[4 4 4 4 4 4 4 true],,, 10")
}

// TestSelf (P18.1): OpSelf: the Fun that runs; where the run begins that is the Fun 0 without Parts, whatever it should capture.
func TestSelf(t *testing.T) {
	code(self, give).tells(t, "returned f0[],,, 2")
	ask(integer(4), nil, capturing(2, self, give)).tells(t, "returned f0[],,, 2")
	// Of what is called it is the Fun by which it was, whatever its slots have then.
	main := function(given, number(7), closes(2), truth(1), call, give)
	ask(integer(4), nil, main, function(), capturing(2, number(9), store(1), number(9), store(2), self, give)).tells(t, "returned f2[4 7],,, 12")
	// Behind a call it is again that of the caller.
	main = function(closes(1), given, call, self, couple, give)
	ask(integer(4), nil, main, function(closes(2), given, call, self, couple, give), function(self, give)).tells(t, "returned p[p[f2[] f1[]] f0[]],,, 14")
}

// TestCells (P18.1): OpNew, OpGet and OpSet; cells are numbered behind those that there are, and hold values of any Kind.
func TestCells(t *testing.T) {
	code(given, cell(0), give).tells(t, "returned r0,, 4, 3")
	code(given, cell(1), cell(1), cell(0), give).tells(t, "returned r2,, ^4 ^r0 r1, 5")
	ask(integer(4), cells(integer(8), integer(9)), function(given, cell(1), give)).tells(t, "returned r2,, 8 ^9 ^4, 3")
	for _, v := range values() {
		ask(v, nil, function(given, cell(0), get, give)).tells(t, "returned "+text(v)+",, "+text(v)+", 4")
		ask(v, nil, function(number(3), cell(0), store(1), load(1), given, set, load(1), give)).tells(t, "returned r0,, "+text(v)+", 8")
		three := cells(integer(8), v, integer(9))
		ask(ref(1), three, function(given, get, give)).tells(t, "returned "+text(v)+",, 8 ^"+text(v)+" 9, 3")
		ask(ref(1), three, function(given, number(5), set, given, give)).tells(t, "returned r1,, 8 ^5 9, 5")
	}
	// What lies below is left, and OpSet puts nothing.
	ask(ref(0), cells(integer(8)), function(number(7), given, number(5), set, give)).tells(t, "returned 7,, 5, 5")
	ask(ref(0), cells(integer(8)), function(number(7), given, get, couple, give)).tells(t, "returned p[7 8],, 8, 5")
	// Two Refs of one cell; what was read stays; a cell may hold its own Ref.
	code(given, cell(0), store(1), load(1), store(2), load(2), get, load(2), number(6), set, load(1), get, couple, give).tells(t, "returned p[4 6],, 6, 14")
	code(given, cell(0), store(1), load(1), load(1), set, load(1), get, give).tells(t, "returned r0,, r0, 9")
	// A Ref may be known ahead of its cell.
	ask(ref(1), cells(integer(8)), function(given, cell(0), pop, given, get, give)).tells(t, "returned r1,, 8 r1, 6")
}

// TestCellTypes (P18.1): a new cell has its instruction's T, an old one keeps its Type, whatever it holds.
func TestCellTypes(t *testing.T) {
	kept := api.Type{Kind: -7, Label: 99, Heap: 3, Exc: 4, Parts: []api.Type{{Kind: 8}, {Label: -5}}}
	made := api.Type{Kind: api.Fun, Label: 1, Heap: 1, Exc: none, Parts: []api.Type{typed(api.Int, 0), typed(api.Ref, 0, typed(api.Bool, 1))}}
	f := function(given, truth(1), set, given, api.Ins{Op: api.OpNew, T: made}, store(1), load(1), truth(0), set, load(1), give)
	o := ask(ref(0), []api.Cell{{Type: kept, Value: integer(1)}}, f).run()
	want := api.Outcome{Kind: api.Returned, Value: ref(1), Heap: []api.Cell{{Type: kept, Value: boolean(1)}, {Type: made, Value: boolean(0)}}, Steps: 11}
	if !alike(o, want) {
		t.Errorf("%+v; want %+v", o, want)
	}
}

// TestOut (P18.1): OpOut: events in order, with their labels; nothing is put.
func TestOut(t *testing.T) {
	code(given, out(0), given, give).tells(t, "returned 4, 4,, 4")
	code(truth(1), number(-6), out(1), given, out(0), given, out(1), give).tells(t, "returned true, ^-6 4 ^4,, 8")
	code(given, out(0), given, throw).tells(t, "raised 4, 4,, 4")
	labels := api.Lattice{Names: []string{"low"}, Order: [][]bool{{true}}}
	q := code(given, out(0), given, give)
	q.c.Lattice = labels
	q.tells(t, "returned 4, 4,, 4")
}

// TestJumps (P18.1): OpJump, and OpUnless, which goes elsewhere if the Bool is 0; forward, back and to itself.
func TestJumps(t *testing.T) {
	code(jump(2), throw, number(1), give).tells(t, "returned 1,,, 3")
	code(jump(0)).fuel(5).tells(t, "out of fuel,,, 5")
	code(jump(1), give).tells(t, "stuck,,, 2")
	code(truth(0), unless(4), number(1), give, number(2), give).tells(t, "returned 2,,, 4")
	code(truth(1), unless(4), number(1), give, number(2), give).tells(t, "returned 1,,, 4")
	code(number(7), truth(0), unless(4), pop, give).tells(t, "returned 7,,, 4")
	// Down to 0: five steps a round and the last one.
	loop := function(given, number(1), op(api.OpLess), not, unless(10), given, number(1), op(api.OpSub), store(0), jump(0), given, give)
	ask(integer(4), nil, loop).tells(t, "returned 0,,, 47")
	// The stack is as it was.
	code(number(1), number(2), jump(4), give, couple, give).tells(t, "returned p[1 2],,, 5")
	// From the last place to the first.
	code(truth(1), jump(3), give, unless(1), number(5), jump(2)).tells(t, "returned 5,,, 6")
}

// TestSteps (P18.1): each instruction is a step; without fuel for it the run ends ahead of it, with all that was done.
func TestSteps(t *testing.T) {
	q := code(given, out(1), number(3), cell(0), store(1), load(1), truth(1), set, closes(0), pop, load(1), get, give)
	lines := []string{",", ",", " ^4,", " ^4,", " ^4, 3", " ^4, 3", " ^4, 3", " ^4, 3", " ^4, true", " ^4, true", " ^4, true", " ^4, true", " ^4, true"}
	for n, line := range lines {
		q.fuel(n).tells(t, "out of fuel,"+line+", "+strconv.Itoa(n))
	}
	q.fuel(13).tells(t, "returned true, ^4, true, 13")
	q.fuel(14).tells(t, "returned true, ^4, true, 13")
	q.fuel(api.MaxSteps).tells(t, "returned true, ^4, true, 13")
	code(jump(0)).fuel(api.MaxSteps).tells(t, "out of fuel,,, 65536")
}

// TestCertificate (P18.1): a run doesn't hang on certificates, nor on bounds and types.
func TestCertificate(t *testing.T) {
	f := function(number(3), out(0), given, give)
	f.Param, f.Result, f.Heap, f.Exc = typed(api.Bool, 1), typed(api.Ref, 0, typed(api.Bool, 1)), 1, 1
	f.Regions = []api.Region{{At: 3, Join: 1, Places: []int{9, 2}}}
	f.Points = []api.Point{{Stack: []api.Type{typed(api.Bool, 1)}, Slots: make([]api.Type, 10), Env: 1}}
	ask(pair(integer(1), integer(2)), nil, f).tells(t, "returned p[1 2], 3,, 4")
}
