package ireval_test

import (
	"slices"
	"testing"

	"palisade/api"
	"palisade/ir"
)

// stuckAt holds nodes that follow three others of function 0 to be Stuck at the first of them, and without fuel for it to be out of fuel. Of the slots 0 has what is given, 1 an Int, 2 a Bool, 3 a Fun of 1; the others have nothing.
func stuckAt(t *testing.T, what string, arg api.Value, n ir.Node) {
	t.Helper()
	f := function(1, number(1, 5), truth(2, 1), closure(3, 1), n, out(0, 1))
	q := ask(arg, cells(integer(9)), f, function(0))
	if got := told(q.run()); got != "stuck,, 9, 4" {
		t.Errorf("%s: %s", what, got)
	}
	q.with(4).tells(t, "stuck,, 9, 4")
	q.with(3).tells(t, "out of fuel,, 9, 3")
}

// goesOn holds such nodes not to be Stuck there.
func goesOn(t *testing.T, what string, arg api.Value, n ir.Node) {
	t.Helper()
	f := function(1, number(1, 5), truth(2, 1), closure(3, 1), n, out(0, 1))
	if o := ask(arg, cells(integer(9)), f, function(0)).run(); o.Kind == api.Stuck {
		t.Errorf("%s: %s", what, told(o))
	}
}

// reading is nodes of each Op that reads a slot, which they read, and the Kind that it needs (0: any).
type reading struct {
	what string
	of   func(slot int) ir.Node
	kind int
}

func readings() []reading {
	all := []reading{
		{"3", func(s int) ir.Node { return move(5, s) }, 0},
		{"5", func(s int) ir.Node { return not(5, s) }, api.Bool},
		{"6, A", func(s int) ir.Node { return couple(5, s, 1) }, 0},
		{"6, B", func(s int) ir.Node { return couple(5, 1, s) }, 0},
		{"7", func(s int) ir.Node { return first(5, s) }, api.Pair},
		{"8", func(s int) ir.Node { return second(5, s) }, api.Pair},
		{"11, A", func(s int) ir.Node { return call(5, s, 1) }, api.Fun},
		{"11, B", func(s int) ir.Node { return call(5, 3, s) }, 0},
		{"12", func(s int) ir.Node { return cell(5, s, 0) }, 0},
		{"13", func(s int) ir.Node { return get(5, s) }, api.Ref},
		{"14, A", func(s int) ir.Node { return set(s, 1) }, api.Ref},
		{"15", func(s int) ir.Node { return out(1, s) }, api.Int},
		{"16", func(s int) ir.Node { return choice(s, nil, nil) }, api.Bool},
		{"18", func(s int) ir.Node { return raise(s) }, api.Int},
	}
	for op := api.OpAdd; op <= api.OpSame; op++ {
		all = append(all,
			reading{"4, A", func(s int) ir.Node { return reckon(5, op, s, 1) }, api.Int},
			reading{"4, B", func(s int) ir.Node { return reckon(5, op, 1, s) }, api.Int},
			reading{"4, both", func(s int) ir.Node { return reckon(5, op, s, s) }, api.Int})
	}
	return all
}

// TestKinds (P12.1): of each Op, a value of another Kind than it needs is Stuck; of 3, 6, 12 and B of 11 any will do.
func TestKinds(t *testing.T) {
	given := []api.Value{integer(7), boolean(1), pair(integer(1), integer(2)), fun(1), ref(0)}
	for _, r := range readings() {
		for _, v := range given {
			if r.kind == 0 || r.kind == v.Kind {
				goesOn(t, r.what, v, r.of(0))
				continue
			}
			stuckAt(t, r.what, v, r.of(0))
		}
	}
	// Of 14 also B may be of any Kind, whatever the cell holds and whatever its Type; and so may what 9 captures.
	for _, v := range given {
		ask(v, nil, function(2, number(1, 5), cell(2, 1, 0), set(2, 0))).tells(t, "returned r0,, "+text(v)+", 3")
		ask(v, nil, function(2, closure(2, 1, 0)), capturing(1, 0)).tells(t, "returned f1["+text(v)+"],,, 1")
	}
	// A Kind is asked ahead of what is done: by 0 a Bool isn't divided.
	stuckAt(t, "a Bool by 0", integer(0), reckon(5, api.OpDiv, 2, 0))
	stuckAt(t, "0 by a Bool", integer(0), reckon(5, api.OpMod, 0, 2))
}

// TestNoValue (P12.1): of each Op, a slot that has no value is Stuck: behind the last one that has one, and ahead of it.
func TestNoValue(t *testing.T) {
	for _, r := range readings() {
		for _, slot := range []int{4, 5, 9} {
			stuckAt(t, r.what, integer(7), r.of(slot))
		}
		f := function(1, number(1, 5), truth(2, 1), closure(3, 1), number(9, 1), r.of(8), out(0, 1))
		ask(integer(7), nil, f, function(0)).tells(t, "stuck,,, 5")
	}
	for _, slot := range []int{4, 9} {
		stuckAt(t, "14, B", ref(0), set(0, slot))
		stuckAt(t, "14, both", ref(0), set(slot, slot))
	}
}

// TestArgs (P12.1): Op 9 with fewer or more Args than Caps, or with one that has no value, is Stuck.
func TestArgs(t *testing.T) {
	for caps := range 4 {
		for args := range 5 {
			slots := []int{0, 1, 0, 1, 0}[:args]
			q := ask(integer(4), nil, function(2, number(1, 5), closure(2, 1, slots...)), capturing(caps, 0))
			if caps != args {
				q.tells(t, "stuck,,, 2")
				q.with(1).tells(t, "out of fuel,,, 1")
			} else if o := q.run(); o.Kind != api.Returned || len(o.Value.Parts) != caps {
				t.Error(told(o))
			}
		}
	}
	for _, slots := range [][]int{{3, 0}, {0, 3}, {3, 3}, {2, 0}, {0, 9}} {
		ask(integer(4), nil, function(2, number(1, 5), closure(2, 1, slots...)), capturing(2, 0)).tells(t, "stuck,,, 2")
	}
	// Of function 0 itself.
	ask(integer(4), nil, capturing(1, 2, closure(2, 0))).tells(t, "stuck,,, 1")
	ask(integer(4), nil, capturing(1, 2, closure(2, 0, 0))).tells(t, "returned f0[4],,, 1")
	ask(integer(4), nil, function(2, closure(2, 0, 0))).tells(t, "stuck,,, 1")
	// That there are too many is asked ahead of how great the Fun would be.
	ask(sized(2000), nil, function(2, closure(2, 1, 0, 0)), capturing(1, 0)).tells(t, "stuck,,, 1")
	ask(sized(2000), nil, function(2, closure(2, 1, 0, 4)), capturing(2, 0)).tells(t, "stuck,,, 1")
}

// TestStrangeFun (P12.1): Op 11 of a Fun of no function's number, or that has captured another number of values than that has Caps, is Stuck.
func TestStrangeFun(t *testing.T) {
	main := function(1, call(1, 0, 0))
	functions := []ir.Fn{main, function(0), capturing(1, 0), capturing(2, 0)}
	for n := range int64(api.MaxFuncs) {
		for captured := range 4 {
			v := fun(n)
			for range captured {
				v.Parts = append(v.Parts, integer(6))
			}
			q := ask(v, nil, functions...)
			switch {
			case n >= 1 && n <= 3 && captured == int(n)-1:
				q.tells(t, "returned "+text(v)+",,, 1")
			case n == 0 && captured == 0: // It calls itself, with itself.
				q.with(7).tells(t, "out of fuel,,, 7")
			default:
				q.tells(t, "stuck,,, 1")
				q.with(0).tells(t, "out of fuel,,, 0")
			}
		}
	}
	// Within a call it is the same.
	ask(fun(2, fun(3)), nil, main, function(0), capturing(1, 2, call(2, 1, 0)), capturing(1, 0)).tells(t, "stuck,,, 2")
	ask(fun(2, fun(9)), nil, main, function(0), capturing(1, 2, call(2, 1, 0)), capturing(1, 0)).tells(t, "stuck,,, 2")
}

// TestNoCell (P12.1): Ops 13 and 14 of a cell that isn't there; one that is made later is there then.
func TestNoCell(t *testing.T) {
	made := list(number(1, 3), out(0, 1), cell(2, 1, 0))
	for _, n := range []int64{2, 3, 1000, 1 << 20, 1<<31 - 1} {
		for _, op := range []ir.Node{get(1, 0), set(0, 0)} {
			alone{ref(n), 0, list(op), "stuck,, 8 ^9, 1"}.tells(t, integer(8), integer(9))
			if n > 2 {
				alone{ref(n), 0, append(slices.Clone(made), op), "stuck, 3, 8 ^9 3, 4"}.tells(t, integer(8), integer(9))
			}
		}
	}
	alone{ref(2), 1, append(slices.Clone(made), get(1, 0)), "returned 3, 3, 8 ^9 3, 4"}.tells(t, integer(8), integer(9))
	alone{ref(2), 1, append(slices.Clone(made), set(0, 0)), "returned 3, 3, 8 ^9 r2, 4"}.tells(t, integer(8), integer(9))
	alone{ref(0), 0, list(get(1, 0)), "stuck,,, 1"}.tells(t)
	alone{ref(0), 0, list(set(0, 0)), "stuck,,, 1"}.tells(t)
}

// TestNoOut (P12.1): at a function's end OUT None, or one that has nothing, is Stuck, in function 0 and in those that are called; where it isn't come to the end nothing is asked.
func TestNoOut(t *testing.T) {
	for _, gives := range []int{none, 1, 9} {
		ask(integer(4), cells(integer(9)), function(gives)).tells(t, "stuck,, 9, 0")
		ask(integer(4), cells(integer(9)), function(gives)).with(0).tells(t, "stuck,, 9, 0")
		ask(integer(4), nil, function(gives, out(0, 0), number(2, 5))).tells(t, "stuck, 4,, 2")
		ask(integer(4), nil, function(gives, raise(0))).tells(t, "raised 4,,, 1")
		main := function(0, closure(1, 1), try(2, list(call(2, 1, 0), out(1, 0)), list(out(1, 0))))
		ask(integer(4), nil, main, function(gives, out(0, 0))).tells(t, "stuck, 4,, 4")
		ask(integer(4), nil, main, function(gives)).with(3).tells(t, "stuck,,, 3")
		ask(integer(4), nil, main, function(gives, raise(0))).tells(t, "returned 4, ^4,, 5")
	}
	ask(integer(4), nil, capturing(1, 1)).tells(t, "stuck,,, 0")
}
