package ireval_test

import (
	"slices"
	"testing"

	"palisade/api"
	"palisade/ir"
)

// unshaped are functions that aren't shaped, each but for one thing like some that are.
func unshaped(t *testing.T) map[string][]ir.Fn {
	all := map[string][]ir.Fn{"none": nil, "zero": {{}}}
	change := func(what string, how func(f *ir.Fn)) {
		for k := range 2 {
			fns := []ir.Fn{function(1, number(1, 5), closure(2, 1), call(1, 2, 1)), function(0, out(0, 0))}
			how(&fns[k])
			all[what+" of the function "+string(rune('0'+k))] = fns
		}
	}
	change("no Param", func(f *ir.Fn) { f.Param = api.Type{} })
	change("another Param", func(f *ir.Fn) { f.Param = api.Type{Kind: api.Bool} })
	change("no Result", func(f *ir.Fn) { f.Result = api.Type{} })
	change("Caps that are no slots", func(f *ir.Fn) { f.Caps = []api.Type{{Kind: api.Bool}} })
	change("too many Caps", func(f *ir.Fn) { f.Slots = slices.Repeat(f.Slots[:1], 100); f.Caps = f.Slots[:17] })
	change("no slots", func(f *ir.Fn) { f.Slots = nil })
	change("too many slots", func(f *ir.Fn) { f.Slots = slices.Repeat(f.Slots[:1], 251) })
	change("an unformed slot", func(f *ir.Fn) { f.Slots[9].Label = 2 })
	change("a Heap", func(f *ir.Fn) { f.Heap = none })
	change("an Exc", func(f *ir.Fn) { f.Exc = 2 })
	change("an Out", func(f *ir.Fn) { f.Out = 10 })
	change("a negative Out", func(f *ir.Fn) { f.Out = -2 })
	for what, n := range unshapedNodes() {
		change(what, func(f *ir.Fn) { f.Body = list(n) })
		change(what+" behind the end", func(f *ir.Fn) { f.Body = list(raise(0), n) })
		change(what+" on a way", func(f *ir.Fn) { f.Body = list(truth(3, 1), choice(3, nil, list(n))) })
		change(what+" in a Try", func(f *ir.Fn) { f.Body = list(try(3, nil, list(n))) })
	}
	deep := list(number(1, 1))
	for range 64 {
		deep = list(try(1, deep, nil))
	}
	change("too deep", func(f *ir.Fn) { f.Body = deep })
	change("too many", func(f *ir.Fn) { f.Body = slices.Repeat(list(number(1, 1)), 4097) })
	change("too many within", func(f *ir.Fn) {
		f.Body = list(number(1, 1))
		f.Body[0].Else = slices.Repeat(list(number(1, 1)), 4096)
	})
	all["too many functions"] = slices.Repeat([]ir.Fn{function(0)}, 61)
	for what, fns := range all {
		if ir.Shaped(chain(), fns) {
			t.Error("shaped:", what)
		}
	}
	return all
}

func unshapedNodes() map[string]ir.Node {
	env, low := number(1, 1), number(1, 1)
	env.Env, low.Env = 2, -1
	return map[string]ir.Node{
		"no Op": {}, "an Op": {Op: 19}, "a negative Op": {Op: -1}, "an Env": env, "a negative Env": low, "a Dst": number(10, 1), "a negative Dst": number(-1, 1), "a bool": truth(1, 2),
		"an A": move(1, 10), "a negative A": move(1, -1), "a B": couple(1, 0, 10), "no op": reckon(1, api.OpNot, 0, 0), "another op": reckon(1, 0, 0, 0), "a function": closure(1, 2), "a negative function": closure(1, -1),
		"an Arg": closure(1, 1, 10), "a T": {Op: 12, Dst: 1}, "a label": out(2, 0), "a negative label": out(-1, 0), "a Dst of a Try": try(10, nil, nil), "an A of an If": choice(10, nil, nil),
	}
}

// TestUnshaped (P12.1): Stuck with nothing else, whether it would be come to what isn't shaped or not.
func TestUnshaped(t *testing.T) {
	for what, fns := range unshaped(t) {
		t.Run(what, func(t *testing.T) {
			for _, fuel := range []int{0, 100, api.MaxSteps} {
				ask(integer(4), cells(integer(1)), fns...).with(fuel).refused(t)
			}
		})
	}
	// As many functions as may be: the last one can be called, there is none behind it.
	most := slices.Repeat([]ir.Fn{function(0)}, api.MaxFuncs)
	most[0] = function(2, closure(1, 59), call(2, 1, 0))
	ask(integer(4), nil, most...).tells(t, "returned 4,,, 2")
	ask(integer(4), nil, most[:59]...).refused(t)
}

// TestUnformedLattice (P12.1): functions of no lattice aren't shaped.
func TestUnformedLattice(t *testing.T) {
	two := []string{"low", "high"}
	for _, l := range []api.Lattice{
		{}, {Names: two}, {Order: chain().Order}, {Names: two, Order: [][]bool{{true, true}, {true, true}}}, {Names: two, Order: [][]bool{{true, false}, {false, true}}},
		{Names: two, Order: [][]bool{{true, true}, nil}}, {Names: two, Order: [][]bool{{true, true}}}, {Names: []string{"low", "9"}, Order: chain().Order}, {Names: make([]string, 100), Order: make([][]bool, 100)},
	} {
		q := ask(integer(4), cells(integer(1)), function(0))
		q.l = l
		q.refused(t)
	}
	// The bottom needs not be the first.
	q := ask(integer(4), nil, function(0, out(0, 0), out(1, 0)))
	q.l = api.Lattice{Names: two, Order: [][]bool{{true, false}, {true, true}}}
	q.tells(t, "returned 4, 4 ^4,, 2")
}

// unformedValues aren't formed.
func unformedValues() []api.Value {
	ring := make([]api.Value, 2)
	ring[0], ring[1] = api.Value{Kind: api.Pair, Parts: ring}, integer(1)
	all := []api.Value{
		{}, {Kind: 6}, {Kind: -1}, boolean(2), boolean(-1), fun(-1), fun(api.MaxFuncs), ref(-1), ref(1 << 31), sized(api.MaxValue + 1), ring[0],
		{Kind: api.Int, Parts: []api.Value{integer(1)}}, {Kind: api.Pair}, {Kind: api.Pair, Parts: []api.Value{integer(1)}}, {Kind: api.Pair, N: 1, Parts: []api.Value{integer(1), integer(2)}},
		{Kind: api.Pair, Parts: []api.Value{integer(1), integer(2), integer(3)}}, {Kind: api.Ref, Parts: []api.Value{integer(1)}},
	}
	for _, v := range all {
		all = append(all, fun(3, integer(1), v))
	}
	return all
}

// TestUnformedValues (P12.1): arguments and cells' values; what the run needs of them isn't asked.
func TestUnformedValues(t *testing.T) {
	f := function(1, number(1, 2), out(0, 1))
	for _, v := range unformedValues() {
		for _, fuel := range []int{0, 100} {
			ask(v, nil, f).with(fuel).refused(t)
			ask(integer(4), cells(v), f).with(fuel).refused(t)
			ask(integer(4), cells(integer(1), v, integer(2)), f).with(fuel).refused(t)
		}
	}
	// Of a cell only its value is asked: its Type may be anything, and needs not be the value's. Nor needs the argument be Param's.
	ask(pair(fun(59), ref(7)), []api.Cell{{Value: boolean(1)}, {Type: api.Type{Kind: api.Fun}, Value: integer(2)}}, f).tells(t, "returned 2, 2, true 2, 2")
}
