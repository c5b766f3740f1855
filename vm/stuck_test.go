package vm_test

import (
	"fmt"
	"slices"
	"testing"

	"palisade/api"
)

// takes is what an Op takes off the stack: the Kinds, the last one on top (0: any). OpClose takes what the function captures.
type takes struct {
	ins   api.Ins
	kinds []int
}

func allTakes() []takes {
	all := []takes{
		{store(1), []int{0}}, {pop, []int{0}}, {not, []int{api.Bool}}, {couple, []int{0, 0}}, {first, []int{api.Pair}}, {second, []int{api.Pair}},
		{closes(1), nil}, {closes(2), []int{0, 0, 0}}, {call, []int{api.Fun, 0}}, {cell(0), []int{0}}, {get, []int{api.Ref}}, {set, []int{api.Ref, 0}},
		{out(1), []int{api.Int}}, {unless(20), []int{api.Bool}}, {throw, []int{api.Int}}, {give, []int{0}}, {number(3), nil}, {truth(1), nil}, {given, nil}, {self, nil}, {jump(20), nil},
	}
	for reckons := api.OpAdd; reckons <= api.OpSame; reckons++ {
		all = append(all, takes{op(reckons), []int{api.Int, api.Int}})
	}
	return all
}

// pushes puts a value of each Kind; of a Fun the function 1's, of a Ref that of the cell 0.
var pushes = map[int][]api.Ins{
	api.Int: {number(5)}, api.Bool: {truth(1)}, api.Pair: {number(5), number(6), couple}, api.Fun: {closes(1)}, api.Ref: {given},
}

// trying asks of an instruction behind others, whose steps are told too.
func trying(ahead []api.Ins, i api.Ins) (question, int) {
	funcs := []api.Func{function(joined(ahead, i, jump(30))...), function(given, give), capturing(3, given, give)}
	return ask(ref(0), cells(integer(9)), funcs...), len(ahead)
}

// stucks holds an instruction behind others to be Stuck, in its own step.
func stucks(t *testing.T, name string, ahead []api.Ins, i api.Ins) {
	t.Helper()
	q, steps := trying(ahead, i)
	want := fmt.Sprintf("stuck,, 9, %d", steps+1)
	if got := told(q.run()); got != want {
		t.Errorf("Op %d, %s: %s; want %s", i.Op, name, got, want)
	}
	q.tells(t, want)
	q.fuel(steps+1).tells(t, want)
	q.fuel(steps).tells(t, fmt.Sprintf("out of fuel,, 9, %d", steps))
}

// goesOn holds one not to be Stuck there: if the run is Stuck at all, then behind it, since there is no place 30 (or 20).
func goesOn(t *testing.T, name string, ahead []api.Ins, i api.Ins) {
	t.Helper()
	q, steps := trying(ahead, i)
	o := q.run()
	if got, want := told(o), told(q.refer()); got != want {
		t.Errorf("Op %d, %s: %s; want %s", i.Op, name, got, want)
	}
	if o.Kind == api.Stuck && o.Steps == steps+1 && i.Op != api.OpJump && i.Op != api.OpUnless {
		t.Errorf("Op %d, %s: %s", i.Op, name, told(o))
	}
}

// right are what an Op takes, of the first Kind that will do.
func (x takes) right() [][]api.Ins {
	var all [][]api.Ins
	for _, kind := range x.kinds {
		all = append(all, pushes[max(kind, api.Int)])
	}
	return all
}

// flat is one list of all these.
func flat(all [][]api.Ins) []api.Ins {
	return slices.Concat(all...)
}

// TestTooFew (P18.1): with fewer values than it takes each Op is Stuck; with just as many it isn't.
func TestTooFew(t *testing.T) {
	met := map[int]bool{}
	for _, x := range allTakes() {
		met[x.ins.Op] = true
		goesOn(t, "just as many", flat(x.right()), x.ins)
		for n := range x.kinds {
			stucks(t, fmt.Sprint(n, " there"), flat(x.right()[len(x.kinds)-n:]), x.ins)
			stucks(t, fmt.Sprint(n, " of the first there"), flat(x.right()[:n]), x.ins)
		}
	}
	if len(met) != api.OpReturn {
		t.Error("Ops are left out:", met)
	}
}

// TestKinds (P18.1): where a Kind is needed, one of each other Kind is Stuck; else any will do.
func TestKinds(t *testing.T) {
	for _, x := range allTakes() {
		for i, needed := range x.kinds {
			for kind := api.Int; kind <= api.Ref; kind++ {
				list := x.right()
				list[i] = pushes[kind]
				name := fmt.Sprint("the Kind ", kind, " at ", i)
				if needed == 0 || needed == kind {
					goesOn(t, name, flat(list), x.ins)
				} else {
					stucks(t, name, flat(list), x.ins)
				}
			}
		}
	}
	// A Kind is asked ahead of what is done: by 0 a Bool isn't divided, and neither are Ints by a Bool.
	stucks(t, "a Bool by 0", []api.Ins{truth(1), number(0)}, div)
	stucks(t, "0 by a Bool", []api.Ins{number(1), truth(0)}, op(api.OpMod))
}

// TestNoSlot (P18.1): a slot that isn't there, or (of OpLoad) has no value.
func TestNoSlot(t *testing.T) {
	for slot := range int64(12) {
		if slot > 0 {
			stucks(t, "an empty slot", nil, load(slot))
			stucks(t, "an empty slot, ahead of one that isn't", []api.Ins{number(1), store(9)}, load(min(slot, 8)))
		}
		if slot > 9 {
			stucks(t, "no slot", []api.Ins{number(1)}, store(slot))
		} else {
			goesOn(t, "a slot", []api.Ins{number(1)}, store(slot))
		}
	}
	for _, slot := range []int64{10, 250, 251, 65535} {
		stucks(t, "no slot", nil, load(slot))
		stucks(t, "no slot", []api.Ins{number(1)}, store(slot))
	}
	for _, slots := range []int{1, 2, 249, 250} {
		code := []api.Ins{number(1), store(int64(slots)), given, give}
		ask(integer(4), nil, slotted(function(code...), slots)).tells(t, "stuck,,, 2")
		code = []api.Ins{number(1), store(int64(slots - 1)), load(int64(slots - 1)), give}
		ask(integer(4), nil, slotted(function(code...), slots)).tells(t, "returned 1,,, 4")
		code[2] = load(int64(slots))
		ask(integer(4), nil, slotted(function(code...), slots)).tells(t, "stuck,,, 3")
	}
	// The slots of function 0 that its Caps have elsewhere have no value when the run begins, but may be stored into.
	for slot := range int64(2) {
		ask(integer(4), nil, capturing(2, load(1+slot), give)).tells(t, "stuck,,, 1")
		ask(integer(4), nil, capturing(2, number(6), store(1+slot), load(1+slot), give)).tells(t, "returned 6,,, 4")
	}
	// The slots of another function are none of one's own.
	ask(integer(4), nil, function(number(6), store(3), closes(1), given, call, give), function(load(3), give)).tells(t, "stuck,,, 6")
	ask(integer(4), nil, function(closes(1), given, call, pop, load(3), give), function(number(6), store(3), given, give)).tells(t, "stuck,,, 9")
}

// TestNothingNamed (P18.1): functions, labels and cells that aren't there.
func TestNothingNamed(t *testing.T) {
	for _, k := range []int64{3, 4, 59, 60, 65535} {
		stucks(t, "no function", nil, closes(k))
		stucks(t, "no function", []api.Ins{number(1), number(2), number(3)}, closes(k))
	}
	for _, label := range []int64{2, 3, 8, 65535} {
		stucks(t, "no label", []api.Ins{number(1)}, out(label))
	}
	goesOn(t, "a label", []api.Ins{number(1)}, out(0))
	goesOn(t, "a label", []api.Ins{number(1)}, out(1))
	for _, n := range []int64{1, 2, 3, 1000, 1 << 20, 1<<31 - 1} {
		ask(ref(n), cells(integer(9)), function(given, get, give)).tells(t, "stuck,, 9, 2")
		ask(ref(n), cells(integer(9)), function(given, number(5), set, given, give)).tells(t, "stuck,, 9, 3")
	}
	ask(ref(0), nil, function(given, get, give)).tells(t, "stuck,,, 2")
	ask(ref(0), nil, function(given, number(5), set)).tells(t, "stuck,,, 3")
	// A cell that is made later is there then.
	ask(ref(1), cells(integer(9)), function(number(3), cell(1), pop, given, get, give)).tells(t, "returned 3,, 9 ^3, 6")
	ask(ref(2), cells(integer(9)), function(number(3), cell(1), pop, given, get, give)).tells(t, "stuck,, 9 ^3, 5")
}

// TestStack (P18.1): a stack has MaxStack values, and no more; what is taken ahead of what is put makes room for it.
func TestStack(t *testing.T) {
	for _, x := range allTakes() {
		full := joined(repeat(api.MaxStack-len(x.kinds), number(1)), flat(x.right())...)
		switch x.ins.Op {
		case api.OpInt, api.OpBool, api.OpLoad, api.OpSelf:
			stucks(t, "on a full stack", full, x.ins)
			goesOn(t, "on one with room", full[1:], x.ins)
		case api.OpClose:
			if len(x.kinds) == 0 {
				stucks(t, "on a full stack", full, x.ins)
				full = full[1:]
			}
			goesOn(t, "on one with room", full, x.ins)
		case api.OpReturn:
			stucks(t, "on a full stack", full, x.ins)
		case api.OpPair:
			goesOn(t, "on a full stack", full, x.ins)
		default: // what makes a Pair as one of the two that it takes needs room itself
			if len(full) <= api.MaxStack {
				goesOn(t, "on a full stack", full, x.ins)
			}
		}
	}
	eight := repeat(api.MaxStack, given)
	sums := repeat(api.MaxStack-1, add)
	code(joined(joined(eight, sums...), give)...).tells(t, "returned 32,,, 16")
	code(joined(eight, given)...).tells(t, "stuck,,, 9")
	// A call that is gone from with a full stack comes back to one with room.
	ask(integer(4), nil, function(joined(joined(repeat(6, given), closes(1), given, call), joined(repeat(6, add), give)...)...), function(given, give)).tells(t, "returned 28,,, 18")
	// Each frame has a stack of its own.
	ask(integer(4), nil, function(joined(joined(repeat(6, given), closes(1), given, call), joined(repeat(6, add), give)...)...), function(joined(eight, joined(sums, give)...)...)).tells(t, "returned 56,,, 32")
}

// TestReturnAlone (P18.1): OpReturn with none, and with more than one value on the stack, in the first frame and in a later one.
func TestReturnAlone(t *testing.T) {
	for n := range api.MaxStack + 1 {
		list := joined(repeat(n, number(6)), give)
		main := function(closes(1), given, call, give)
		if n == 1 {
			code(list...).tells(t, "returned 6,,, 2")
			ask(integer(4), nil, main, function(list...)).tells(t, "returned 6,,, 6")
			continue
		}
		code(list...).tells(t, fmt.Sprintf("stuck,,, %d", n+1))
		ask(integer(4), nil, main, function(list...)).tells(t, fmt.Sprintf("stuck,,, %d", n+4))
	}
}

// TestNoInstruction (P18.1): where there is none at the place the run is Stuck, ahead of a step and of asking for fuel.
func TestNoInstruction(t *testing.T) {
	for n := range 3 {
		q := code(repeat(n, number(5))...)
		for _, fuel := range []int{n, n + 1, api.MaxSteps} {
			q.fuel(fuel).tells(t, fmt.Sprintf("stuck,,, %d", n))
		}
		if n > 0 {
			q.fuel(n-1).tells(t, fmt.Sprintf("out of fuel,,, %d", n-1))
		}
	}
	for _, to := range []int64{1, 2, 65535} {
		code(jump(to)).fuel(1).tells(t, "stuck,,, 1")
		code(truth(0), unless(max(to, 2))).fuel(2).tells(t, "stuck,,, 2")
		code(truth(1), unless(0)).fuel(2).tells(t, "stuck,,, 2")
	}
	// A handler that is no place; a function without code, and one that a call comes back to behind its end.
	ask(integer(4), nil, handled(function(given, throw), 1, 2, 2)).fuel(2).tells(t, "stuck,,, 2")
	ask(integer(4), nil, handled(function(given, throw), 0, 65535, 65535)).tells(t, "stuck,,, 2")
	ask(integer(4), nil, function(closes(1), given, call), function()).fuel(3).tells(t, "stuck,,, 3")
	ask(integer(4), nil, function(closes(1), given, call), function(given, give)).fuel(5).tells(t, "stuck,,, 5")
	ask(integer(4), nil, function(closes(1), given, call), function(given, give)).fuel(4).tells(t, "out of fuel,,, 4")
}
