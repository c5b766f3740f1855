package observe_test

import "palisade/api"

// leaks are all ways by which a secret might go.
func leaks() []leak {
	all := append(append(append(values(), calls()...), cells()...), ways()...)
	for i, k := range all {
		if k.args[0].Kind == 0 {
			all[i].args = numbers
		}
	}
	return all
}

// values are ways through what an instruction makes of values.
func values() []leak {
	pairs := typed(api.Pair, high, intAt(low), intAt(low))
	args := [2]api.Value{pair(integer(1), integer(2)), pair(integer(3), integer(4))}
	one := func(name string, without gap, code ...api.Ins) leak {
		return leak{name: name, funcs: []api.Func{taking(secret, append(code, give)...)}, without: without, seen: "views"}
	}
	two := func(name string, without gap, part api.Ins) leak {
		return leak{name: name, funcs: []api.Func{taking(pairs, given, part, give)}, without: without, args: args, seen: "views"}
	}
	truth := one("the first of a comparison", gap{api.OpSame, 1}, given, number(0), op(api.OpSame))
	truth.funcs[0].Result = typed(api.Bool, low)
	other := one("the second of a comparison", gap{api.OpLess, 2}, number(0), given, op(api.OpLess))
	other.funcs[0].Result = typed(api.Bool, low)
	part := one("the first of a quotient", gap{api.OpDiv, 1}, given, number(1), op(api.OpDiv))
	part.funcs[0].Exc = low
	turned := one("what is given isn't what the first point says", gap{}, given)
	turned.turn = func(main *api.Func) {
		main.Points[0].Slots[0].Label, main.Points[1].Stack[0].Label, main.Points[1].Slots[0].Label = low, low, low
	}
	next := one("what stands there isn't what the next point says", gap{}, given)
	next.turn = func(main *api.Func) { main.Points[1].Stack[0].Label = low }
	return []leak{
		one("a result", gap{api.OpReturn, 1}, given), one("by a slot", gap{api.OpReturn, 1}, given, store(1), load(1)),
		one("the first of a sum", gap{api.OpAdd, 1}, given, number(1), op(api.OpAdd)), one("the second of a sum", gap{api.OpMul, 2}, number(1), given, op(api.OpMul)),
		two("a first", gap{api.OpFirst, 1}, first), two("a second", gap{api.OpSecond, 1}, second),
		truth, other, part, turned, next,
	}
}

// calls are ways through Funs and what they capture, take, give, raise and do.
func calls() []leak {
	open := intAt(low)
	with := func(name string, without gap, seen string, funcs ...api.Func) leak {
		return leak{name: name, funcs: funcs, without: without, seen: seen}
	}
	// chosen is a call of a Fun that is a secret.
	chosen := func(name string, number int, seen string, t api.Type, main, one, other api.Func) leak {
		t.Kind, t.Label, t.Parts = api.Fun, high, []api.Type{open, open}
		main.Param = t
		return leak{name: name, funcs: []api.Func{main, one, other}, without: gap{api.OpCall, number}, args: [2]api.Value{fun(1), fun(2)}, seen: seen}
	}
	called := taking(open, given, number(0), call, give)
	forgets := taking(open, given, number(0), call, pop, number(1), give)
	quietly := api.Type{Heap: high, Exc: none}
	tells := taking(open, number(1), op(api.OpOut, low), number(1), give)
	still := taking(open, number(1), give)
	// What is given where a secret tells the way is one.
	calls := taking(secret, choice(ins(given), ins(closes(1), number(0), call, pop), nil, ins(number(1), give))...)
	throws := raising(taking(secret, choice(ins(given), ins(number(1), throw), nil, ins(number(1), give))...), high)
	return []leak{
		with("what is captured", gap{api.OpClose, 1}, "views", taking(secret, given, closes(1), number(0), call, give), holding(taking(open, load(1), give), open)),
		with("what is taken", gap{api.OpCall, 1}, "views", taking(secret, closes(1), given, call, give), taking(open, given, give)),
		chosen("what a secret gives", 5, "views", quietly, called, quiet(taking(open, number(1), give)), quiet(taking(open, number(2), give))),
		chosen("what a secret tells", 2, "events", api.Type{Exc: none}, forgets, tells, still),
		chosen("whether a secret raises", 8, "ends", api.Type{Heap: high, Exc: low}, raising(forgets, low), raising(quiet(taking(open, number(1), throw)), low), raising(quiet(still), low)),
		with("whether what is called raises", gap{api.OpCall, 7}, "ends", raising(taking(secret, closes(1), given, call, pop, number(1), give), low), giving(throws, high)),
		with("whether what is called by a secret raises", gap{}, "ends", giving(raising(calls, low), high), raising(taking(secret, number(1), throw), low)),
		with("what is called by a secret tells", gap{}, "events", calls, takesSecret(tells)),
		with("what a quiet one calls tells", gap{}, "events", calls, quiet(taking(secret, closes(2), number(0), call, give)), tells),
		with("what a quiet one tells", gap{}, "events", calls, quiet(takesSecret(tells))),
	}
}

func takesSecret(f api.Func) api.Func {
	f.Param = secret
	return f
}

// cells are ways through what cells hold, and which ones.
func cells() []leak {
	opened := refAt(low, low)
	both := typed(api.Pair, low, secret, opened)
	hold := [2]api.Value{pair(integer(0), ref(0)), pair(integer(1), ref(0))}
	with := func(name string, without gap, seen string, args [2]api.Value, funcs ...api.Func) leak {
		return leak{name: name, funcs: funcs, without: without, args: args, cells: five, seen: seen}
	}
	made := api.Ins{Op: api.OpNew, T: intAt(low)}
	writes := holding(quiet(taking(secret, load(1), number(8), set, number(1), give)), opened)
	return []leak{
		with("what a new one holds", gap{api.OpNew, 1}, "views", numbers, taking(secret, given, made, get, give)),
		with("what a secret one holds", gap{api.OpGet, 1}, "views", refs, taking(refAt(high, low), given, get, give)),
		with("what is set", gap{api.OpSet, 1}, "views", hold, taking(both, given, second, given, first, set, number(1), give)),
		with("which one is set", gap{api.OpSet, 3}, "views", refs, taking(refAt(high, low), given, number(8), set, number(1), give)),
		with("whether one is set", gap{api.OpSet, 4}, "views", hold, taking(both, choice(ins(given, first), ins(given, second, number(8), set), nil, ins(number(1), give))...)),
		with("whether a quiet one sets one", gap{}, "views", hold, taking(both, choice(ins(given, second, closes(1), store(1), given, first), ins(load(1), number(1), call, pop), nil, ins(number(1), give))...), writes),
	}
}

// ways are those by which way is gone, and by what is raised and told.
func ways() []leak {
	out := op(api.OpOut, low)
	one := func(name string, without gap, seen string, f api.Func) leak {
		return leak{name: name, funcs: []api.Func{f}, without: without, seen: seen}
	}
	caught := func(code []api.Ins, from, to, at int) api.Func {
		f := taking(secret, code...)
		f.Handlers = []api.Handler{{From: from, To: to, At: at}}
		return f
	}
	stores := taking(secret, choice(ins(number(2), store(1), given), ins(number(3), pop, number(1), store(1)), nil, ins(load(1), give))...)
	pushes := taking(secret, choice(ins(given), ins(number(1)), ins(number(2)), ins(give))...)
	leaves := raising(taking(secret, choice(ins(given), ins(number(1), throw), nil, ins(number(1), give))...), high)
	divides := raising(taking(secret, number(1), given, op(api.OpDiv), pop, number(1), give), low)
	return []leak{
		one("which way is gone", gap{api.OpUnless, 1}, "views", stores),
		one("what is pushed on a secret way", gap{api.OpInt, 2}, "views", pushes),
		one("what is told", gap{api.OpOut, 1}, "events", taking(secret, given, out, number(1), give)),
		one("whether it is told", gap{api.OpOut, 2}, "events", taking(secret, choice(ins(given), ins(number(1), out), nil, ins(number(1), give))...)),
		one("what is raised", gap{}, "views", raising(taking(secret, given, throw), low)),
		one("whether it raises", gap{}, "ends", giving(raising(leaves, low), high)),
		one("whether it divides by nothing", gap{api.OpDiv, 3}, "ends", divides),
		one("what it raises where it divides", gap{}, "ends", giving(divides, high)),
		one("whether it leaves", gap{}, "ends", leaves),
		one("what is caught", gap{api.OpRaise, 1}, "views", caught(ins(given, throw, give), 1, 2, 2)),
		turned(one("what stands in the point of what is caught", gap{}, "views", caught(ins(given, throw, give), 1, 2, 2)), func(main *api.Func) { main.Points[2].Stack[0].Label = low }),
		turned(trimmed(one("no region", gap{}, "views", stores), 0, false), func(main *api.Func) { main.Regions = nil }),
		trimmed(one("a region of no places", gap{}, "views", stores), 0, false),
		trimmed(one("a region of a first place alone", gap{}, "views", stores), 1, false),
		trimmed(one("a region that leaves", gap{}, "ends", leaves), 2, true),
		unraised(one("a region of low places", gap{}, "views", stores)),
	}
}

// turned is one whose certificate is changed by hand.
func turned(k leak, turn func(main *api.Func)) leak {
	k.turn = turn
	return k
}

// trimmed is one whose regions have so many places, and join at the next one, if that is asked for.
func trimmed(k leak, many int, joins bool) leak {
	k.trim = func(r *api.Region) {
		if joins {
			r.Join = r.Places[many]
		}
		r.Places = r.Places[:many]
	}
	return k
}

// unraised is one whose Envs are all low.
func unraised(k leak) leak {
	k.spared = 1
	return k
}
