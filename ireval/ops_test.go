package ireval_test

import (
	"math"
	"testing"

	"palisade/api"
	"palisade/ir"
)

// alone are nodes of function 0, which gives what a slot has, and how they end.
type alone struct {
	arg   api.Value
	gives int
	body  []ir.Node
	line  string
}

func (a alone) tells(t *testing.T, heap ...api.Value) {
	t.Helper()
	ask(a.arg, cells(heap...), function(a.gives, a.body...)).tells(t, a.line)
}

// values is one of each Kind.
func values() []api.Value {
	return []api.Value{integer(-5), boolean(1), pair(integer(1), boolean(0)), fun(7, ref(3), integer(2)), ref(0)}
}

// TestNothingDone (P12.1): a function without nodes gives what its OUT has, in no step.
func TestNothingDone(t *testing.T) {
	for _, v := range values() {
		alone{v, 0, nil, "returned " + text(v) + ",,, 0"}.tells(t)
		ask(v, cells(v), function(0)).with(0).tells(t, "returned "+text(v)+",, "+text(v)+", 0")
	}
}

// TestNumbers (P12.1): Ops 1 and 2.
func TestNumbers(t *testing.T) {
	for _, n := range []int64{0, 1, -1, 77, math.MaxInt64, math.MinInt64} {
		alone{boolean(1), 3, list(number(3, n)), "returned " + text(integer(n)) + ",,, 1"}.tells(t)
	}
	alone{integer(4), 1, list(truth(1, 0)), "returned false,,, 1"}.tells(t)
	alone{integer(4), 1, list(truth(1, 1)), "returned true,,, 1"}.tells(t)
	alone{integer(4), 0, list(truth(0, 1)), "returned true,,, 1"}.tells(t)
	alone{integer(4), 2, list(number(1, 5), number(2, 6), truth(1, 0)), "returned 6,,, 3"}.tells(t)
	alone{integer(4), 1, list(number(1, 5), number(2, 6), truth(1, 0)), "returned false,,, 3"}.tells(t)
}

// TestCopy (P12.1): Op 3, of all Kinds; what it is of stays.
func TestCopy(t *testing.T) {
	for _, v := range values() {
		alone{v, 9, list(move(9, 0)), "returned " + text(v) + ",,, 1"}.tells(t)
		alone{v, 0, list(move(9, 0)), "returned " + text(v) + ",,, 1"}.tells(t)
		alone{v, 0, list(move(0, 0)), "returned " + text(v) + ",,, 1"}.tells(t)
		alone{v, 2, list(move(1, 0), number(0, 3), move(2, 1)), "returned " + text(v) + ",,, 3"}.tells(t)
	}
}

// TestReckon (P12.1): Op 4, of each of api's OpAdd to OpSame; a division by 0 raises 0.
func TestReckon(t *testing.T) {
	for _, c := range []struct {
		op   int
		a, b int64
		end  string
	}{
		{api.OpAdd, 2, 3, "returned 5"}, {api.OpAdd, math.MaxInt64, 1, "returned -9223372036854775808"},
		{api.OpSub, 2, 3, "returned -1"}, {api.OpSub, math.MinInt64, 1, "returned 9223372036854775807"},
		{api.OpMul, -4, 3, "returned -12"}, {api.OpMul, math.MaxInt64, 2, "returned -2"},
		{api.OpDiv, 7, 2, "returned 3"}, {api.OpDiv, -7, 2, "returned -3"}, {api.OpDiv, math.MinInt64, -1, "returned -9223372036854775808"}, {api.OpDiv, 7, 0, "raised 0"},
		{api.OpMod, 7, 2, "returned 1"}, {api.OpMod, -7, 2, "returned -1"}, {api.OpMod, math.MinInt64, -1, "returned 0"}, {api.OpMod, 0, 0, "raised 0"},
		{api.OpLess, 2, 3, "returned true"}, {api.OpLess, 3, 3, "returned false"}, {api.OpLess, 3, -3, "returned false"},
		{api.OpSame, 3, 3, "returned true"}, {api.OpSame, 3, 2, "returned false"},
	} {
		alone{integer(c.a), 2, list(number(1, c.b), reckon(2, c.op, 0, 1)), c.end + ",,, 2"}.tells(t)
		alone{integer(c.b), 0, list(number(1, c.a), reckon(0, c.op, 1, 0)), c.end + ",,, 2"}.tells(t)
	}
	alone{integer(6), 1, list(reckon(1, api.OpMul, 0, 0)), "returned 36,,, 1"}.tells(t)
	alone{integer(6), 0, list(reckon(0, api.OpSub, 0, 0)), "returned 0,,, 1"}.tells(t)
}

// TestNot (P12.1): Op 5.
func TestNot(t *testing.T) {
	alone{boolean(1), 1, list(not(1, 0)), "returned false,,, 1"}.tells(t)
	alone{boolean(0), 1, list(not(1, 0)), "returned true,,, 1"}.tells(t)
	alone{boolean(0), 0, list(not(0, 0), not(0, 0), not(0, 0)), "returned true,,, 3"}.tells(t)
}

// TestPairs (P12.1): Ops 6, 7 and 8, with parts of all Kinds.
func TestPairs(t *testing.T) {
	for _, v := range values() {
		alone{v, 2, list(number(1, 8), couple(2, 0, 1)), "returned p[" + text(v) + " 8],,, 2"}.tells(t)
		alone{v, 2, list(number(1, 8), couple(2, 1, 0)), "returned p[8 " + text(v) + "],,, 2"}.tells(t)
		alone{v, 0, list(couple(0, 0, 0)), "returned p[" + text(v) + " " + text(v) + "],,, 1"}.tells(t)
		alone{pair(v, integer(8)), 1, list(first(1, 0)), "returned " + text(v) + ",,, 1"}.tells(t)
		alone{pair(v, integer(8)), 1, list(second(1, 0)), "returned 8,,, 1"}.tells(t)
		alone{pair(integer(8), v), 0, list(second(0, 0)), "returned " + text(v) + ",,, 1"}.tells(t)
	}
	// A Pair has what its slots had when it was made.
	alone{integer(4), 1, list(couple(1, 0, 0), couple(1, 1, 0), number(0, 5)), "returned p[p[4 4] 4],,, 3"}.tells(t)
}

// TestClose (P12.1): Op 9: the Fun of a function, what it captures in the order of Args.
func TestClose(t *testing.T) {
	two, none := capturing(2, 0), function(0)
	tells := func(line string, gives int, body ...ir.Node) {
		t.Helper()
		ask(integer(4), nil, function(gives, body...), two, none).tells(t, line)
	}
	tells("returned f2[],,, 1", 1, closure(1, 2))
	tells("returned f0[],,, 1", 1, closure(1, 0))
	tells("returned f1[4 7],,, 2", 2, number(1, 7), closure(2, 1, 0, 1))
	tells("returned f1[7 4],,, 2", 2, number(1, 7), closure(2, 1, 1, 0))
	tells("returned f1[4 4],,, 1", 0, closure(0, 1, 0, 0))
	tells("returned f1[f1[4 4] f2[]],,, 3", 3, closure(1, 1, 0, 0), closure(2, 2), closure(3, 1, 1, 2))
	// It has what its slots had when it was made.
	tells("returned f1[4 4],,, 2", 1, closure(1, 1, 0, 0), number(0, 5))
	for _, v := range values() {
		ask(v, nil, function(1, closure(1, 1, 0, 0)), two).tells(t, "returned f1["+text(v)+" "+text(v)+"],,, 1")
	}
	// As many as may be captured.
	ask(integer(4), nil, function(1, closure(1, 1, 0, 0, 0, 0, 0, 0, 0, 0)), capturing(8, 0)).tells(t, "returned f1[4 4 4 4 4 4 4 4],,, 1")
}

// TestCells (P12.1): Ops 12, 13 and 14; cells are numbered behind those that there are, and hold values of any Kind.
func TestCells(t *testing.T) {
	alone{integer(4), 1, list(cell(1, 0, 0)), "returned r0,, 4, 1"}.tells(t)
	alone{integer(4), 2, list(cell(1, 0, 1), cell(2, 1, 1), cell(3, 2, 0)), "returned r1,, ^4 ^r0 r1, 3"}.tells(t)
	alone{integer(4), 1, list(cell(1, 0, 1)), "returned r2,, 8 ^9 ^4, 1"}.tells(t, integer(8), integer(9))
	for _, v := range values() {
		alone{v, 2, list(cell(1, 0, 0), get(2, 1)), "returned " + text(v) + ",, " + text(v) + ", 2"}.tells(t)
		alone{v, 1, list(cell(1, 0, 0), set(1, 1), get(1, 1)), "returned r0,, r0, 3"}.tells(t)
		alone{v, 2, list(number(1, 3), cell(2, 1, 0), set(2, 0)), "returned r0,, " + text(v) + ", 3"}.tells(t)
		alone{ref(1), 1, list(get(1, 0)), "returned " + text(v) + ",, 8 ^" + text(v) + " 9, 1"}.tells(t, integer(8), v, integer(9))
		alone{ref(1), 0, list(number(1, 5), set(0, 1)), "returned r1,, 8 ^5 9, 2"}.tells(t, integer(8), v, integer(9))
	}
	// Two Refs of one cell; a Ref that is copied is of that cell.
	alone{integer(4), 4, list(cell(1, 0, 0), move(2, 1), number(3, 6), set(2, 3), get(4, 1)), "returned 6,, 6, 5"}.tells(t)
	// What was read stays, and what is written hangs on no slot then.
	alone{ref(0), 1, list(get(1, 0), number(2, 7), set(0, 2), number(2, 9)), "returned 8,, 7, 4"}.tells(t, integer(8))
	// A Ref may be known ahead of its cell.
	alone{ref(1), 2, list(cell(1, 0, 0), get(2, 0)), "returned r1,, 8 r1, 2"}.tells(t, integer(8))
	alone{ref(0), 0, list(number(0, 3)), "returned 3,, 8 ^true, 1"}.tells(t, integer(8), boolean(1))
}

// TestCellTypes (P12.1): a new cell has its node's T, an old one keeps its Type, whatever it holds.
func TestCellTypes(t *testing.T) {
	kept := api.Type{Kind: -7, Label: 99, Heap: 3, Exc: 4, Parts: []api.Type{{Kind: 8}, {Label: -5}}}
	made := api.Type{Kind: api.Fun, Label: 1, Heap: 1, Exc: none, Parts: []api.Type{{Kind: api.Int}, {Kind: api.Ref, Parts: []api.Type{{Kind: api.Bool, Label: 1}}}}}
	body := list(ir.Node{Op: 12, Dst: 1, A: 0, T: made}, truth(2, 1), set(0, 2), set(1, 2))
	o := ask(ref(0), []api.Cell{{Type: kept, Value: integer(1)}}, function(1, body...)).run()
	want := api.Outcome{Kind: api.Returned, Value: ref(1), Heap: []api.Cell{{Type: kept, Value: boolean(1)}, {Type: made, Value: boolean(1)}}, Steps: 4}
	if !alike(o, want) {
		t.Errorf("%+v; want %+v", o, want)
	}
}

// TestOut (P12.1): Op 15: events in order, with their labels.
func TestOut(t *testing.T) {
	alone{integer(4), 0, list(out(0, 0)), "returned 4, 4,, 1"}.tells(t)
	alone{integer(4), 1, list(out(1, 0), number(1, -6), out(0, 1), out(0, 0), out(1, 1)), "returned -6, ^4 -6 4 ^-6,, 5"}.tells(t)
	alone{integer(4), 0, list(out(0, 0), raise(0)), "raised 4, 4,, 2"}.tells(t)
}

// TestEnv (P12.1): a run doesn't hang on Env, nor on bounds and types.
func TestEnv(t *testing.T) {
	body := list(number(1, 3), choice(2, list(out(0, 1)), nil))
	body[0].Env, body[1].Env, body[1].Body[0].Env = 1, 1, 1
	f := function(1, append(list(truth(2, 1)), body...)...)
	f.Heap, f.Exc, f.Result = 1, 1, api.Type{Kind: api.Ref, Label: 1, Parts: []api.Type{{Kind: api.Bool}}}
	ask(pair(integer(1), integer(2)), nil, f).tells(t, "returned 3, 3,, 4")
}
