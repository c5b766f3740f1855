package ir_test

import (
	"math"
	"slices"
	"strconv"
	"testing"

	"palisade/api"
	"palisade/ir"
)

// fieldsOf is which fields of a node each Op needs, Env apart: d Dst, a A, b B, n N, t T, g Args, y Body and Else.
var fieldsOf = [19]string{"", "d", "dn", "da", "dabn", "da", "dab", "da", "da", "dgn", "d", "dab", "dat", "da", "ab", "an", "ay", "dy", "a"}

// The slots of lone: Param and five Caps, then from dstSlots on such as a node's Dst may be, then from unset on again the types of the first ones.
const (
	dstSlots = 6
	unset    = 11
	allSlots = 17
)

// lone is a function of sets whose Body is one node of that Op, and which is right whatever the node's Env is.
func lone(op int) ir.Fn {
	param, result := integer(lO), integer(lABC)
	caps := []api.Type{boolean(lABC), pair(lABC, integer(lABC), integer(lABC)), fun(lABC, integer(lABC), integer(lABC), lABC, none), ref(lABC, integer(lABC)), integer(lABC)}
	first := append([]api.Type{param}, caps...)
	dst := []api.Type{integer(lABC), boolean(lABC), pair(lABC, integer(lABC), integer(lABC)), fun(lABC, param, result, lO, lABC), ref(lABC, integer(lABC))}
	f := ir.Fn{Param: param, Result: result, Caps: caps, Heap: lO, Exc: lABC, Slots: slices.Concat(first, dst, first), Body: listOf(nodeOf(op))}
	if op == 18 {
		f.Out = none
	}
	return f
}

// nodeOf is the node of lone, with something in the fields that its Op needs alone.
func nodeOf(op int) ir.Node {
	n := ir.Node{Op: op, Env: lO}
	switch op {
	case 1, 17:
		n.Dst, n.N = 6, 5
	case 2:
		n.Dst, n.N = 7, 1
	case 3:
		n.Dst, n.A = 6, 5
	case 4:
		n.Dst, n.A, n.B, n.N = 6, 5, 0, api.OpAdd
	case 5:
		n.Dst, n.A = 7, 1
	case 6:
		n.Dst, n.A, n.B = 8, 5, 0
	case 7, 8:
		n.Dst, n.A = 6, 2
	case 9:
		n.Dst, n.Args = 9, []int{1, 2, 3, 4, 5}
	case 10:
		n.Dst = 9
	case 11:
		n.Dst, n.A, n.B = 6, 3, 5
	case 12:
		n.Dst, n.A, n.T = 10, 5, integer(lABC)
	case 13:
		n.Dst, n.A = 6, 4
	case 14:
		n.A, n.B = 4, 5
	case 15:
		n.A, n.N = 5, lABC
	case 16:
		n.A = 1
	case 18:
		n.A = 5
	}
	return n
}

// with is f with its first node changed.
func with(f ir.Fn, change func(n *ir.Node)) ir.Fn {
	f.Body = slices.Clone(f.Body)
	change(&f.Body[0])
	return f
}

// shapedIs holds whether a function alone is shaped, in both answers.
func shapedIs(t *testing.T, name string, l api.Lattice, f ir.Fn, want bool) {
	t.Helper()
	if got := ir.Shaped(l, []ir.Fn{f}); got != want {
		t.Errorf("%s: shaped: %v", name, got)
	}
	if k, e := ir.Check(l, []ir.Fn{f}); (e == api.ErrForm) == want || (e == api.ErrForm) != (k == -1) {
		t.Errorf("%s: %d, error %d", name, k, e)
	}
}

// TestEachOpIsRight (P10.1, P10.2): one function of each Op, and with what it doesn't need being anything.
func TestEachOpIsRight(t *testing.T) {
	ring := make([]api.Type, 2)
	ring[0], ring[1] = api.Type{Kind: api.Pair, Parts: ring}, integer(99)
	for op := 1; op <= 18; op++ {
		name, f := strconv.Itoa(op), lone(op)
		answers(t, name, sets(), []ir.Fn{f}, 0, api.OK)
		for field, spoil := range map[string]func(n *ir.Node){
			"d": func(n *ir.Node) { n.Dst = -1 },
			"a": func(n *ir.Node) { n.A = allSlots },
			"b": func(n *ir.Node) { n.B = math.MinInt },
			"n": func(n *ir.Node) { n.N = math.MinInt64 },
			"t": func(n *ir.Node) { n.T = ring[0] },
			"g": func(n *ir.Node) { n.Args = []int{0, -5, 1000} },
			"y": func(n *ir.Node) { n.Body, n.Else = listOf(ir.Node{Op: 77}, raising(0, 99)), listOf(ir.Node{}) },
		} {
			want := api.OK
			for _, needed := range fieldsOf[op] {
				if field == string(needed) {
					want = api.ErrForm
				}
			}
			k := 0
			if want == api.ErrForm {
				k = -1
			}
			answers(t, name+" "+field, sets(), []ir.Fn{with(f, spoil)}, k, want)
		}
	}
}

// TestSlotsOfNodes (P10.1): each slot that an Op needs is one of those that are there, the last one too.
func TestSlotsOfNodes(t *testing.T) {
	for op := 1; op <= 18; op++ {
		for _, field := range fieldsOf[op] {
			for _, slot := range []int{0, 1, allSlots - 1, allSlots, allSlots + 1, 249, 250, 1 << 40, math.MaxInt, -1, -2, math.MinInt} {
				change := func(n *ir.Node) { n.Dst = slot }
				switch field {
				case 'a':
					change = func(n *ir.Node) { n.A = slot }
				case 'b':
					change = func(n *ir.Node) { n.B = slot }
				case 'g':
					change = func(n *ir.Node) { n.Args = []int{1, 2, slot, 4} }
				case 'n', 't', 'y':
					continue
				}
				shapedIs(t, strconv.Itoa(op)+string(field)+strconv.Itoa(slot), sets(), with(lone(op), change), slot >= 0 && slot < allSlots)
			}
		}
	}
	for _, args := range [][]int{nil, {}, {allSlots}, {0, allSlots}, {allSlots, 0}, {-1, 0}, slices.Repeat([]int{allSlots - 1}, 1000), append(slices.Repeat([]int{0}, 1000), allSlots)} {
		f := with(lone(9), func(n *ir.Node) { n.Args = args })
		shapedIs(t, "Args", sets(), f, !slices.Contains(args, allSlots) && !slices.Contains(args, -1))
	}
}

// TestNumbersOfNodes (P10.1): N of each Op that needs one, and Env of all.
func TestNumbersOfNodes(t *testing.T) {
	ends := map[int][2]int64{1: {math.MinInt64, math.MaxInt64}, 2: {0, 1}, 4: {6, 12}, 9: {0, 0}, 15: {0, 7}}
	for op, end := range ends {
		for _, n := range []int64{-1, 0, 1, 2, 5, 6, 7, 8, 9, 10, 11, 12, 13, 59, 60, 1 << 32, 1<<32 + 6, math.MaxInt64, math.MinInt64, -2} {
			f := with(lone(op), func(node *ir.Node) { node.N = n })
			shapedIs(t, strconv.Itoa(op)+" N "+strconv.FormatInt(n, 10), sets(), f, n >= end[0] && n <= end[1])
		}
	}
	for op := 1; op <= 18; op++ {
		for _, env := range []int{0, 1, 6, 7, 8, 9, -1, -2, math.MaxInt, math.MinInt, 1 << 32} {
			f := with(lone(op), func(node *ir.Node) { node.Env = env })
			shapedIs(t, strconv.Itoa(op)+" Env "+strconv.Itoa(env), sets(), f, env >= 0 && env < 8)
		}
	}
	for _, op := range []int{0, -1, 19, 20, 26, math.MaxInt, math.MinInt, 1 << 32, 1<<32 + 1} {
		shapedIs(t, "Op "+strconv.Itoa(op), sets(), with(lone(1), func(n *ir.Node) { n.Op = op }), false)
	}
	for _, odd := range unformedTypes() {
		f := ir.Fn{Param: integer(0), Result: integer(0), Exc: none, Slots: []api.Type{integer(0), ref(0, integer(0))}, Body: listOf(ir.Node{Op: 12, Dst: 1, T: odd})}
		shapedIs(t, "T", chain(), f, false)
		f.Body[0].T = integer(0)
		shapedIs(t, "T", chain(), f, true)
	}
}

// TestNumbersOfFunctions (P10.1): an Op 9 may name any function that there is, itself and later ones too.
func TestNumbersOfFunctions(t *testing.T) {
	for _, many := range []int{1, 2, 59, 60} {
		for _, n := range []int{0, many - 1, many, many + 1, -1} {
			for _, at := range []int{0, many - 1} {
				fns := slices.Repeat([]ir.Fn{lone(1)}, many)
				fns[at] = with(lone(9), func(node *ir.Node) { node.N = int64(n) })
				if n >= 0 && n < many {
					answers(t, "a function", sets(), fns, 0, api.OK)
				} else {
					answers(t, "no function", sets(), fns, -1, api.ErrForm)
				}
			}
		}
	}
}

// TestNodesWithin (P10.1): what is asked of nodes is asked of those in Body and Else of a 16 and a 17, the last ones too, however deep.
func TestNodesWithin(t *testing.T) {
	for deep := 1; deep <= 64; deep++ {
		for op, last := range map[int]ir.Node{16: {Op: 19}, 17: {Op: 1, Dst: allSlots}} {
			for _, other := range []bool{false, true} {
				body, right := listOf(nodeOf(1), last), listOf(nodeOf(1))
				for range deep {
					n := nodeOf(op)
					m := n
					n.Body, m.Body = body, right
					if other {
						n.Body, n.Else, m.Body, m.Else = listOf(nodeOf(1)), body, listOf(nodeOf(1)), right
					}
					body, right = listOf(nodeOf(15), n), listOf(nodeOf(15), m)
				}
				f := lone(1)
				f.Body = body
				shapedIs(t, "wrong within", sets(), f, false)
				f.Body = right
				shapedIs(t, "right within", sets(), f, deep < 64)
			}
		}
	}
}

// TestLimitOfNodes (P10.1, P10.2): 4096 and 4097 nodes, 64 and 65 deep.
func TestLimitOfNodes(t *testing.T) {
	f := ir.Fn{Param: boolean(0), Result: boolean(0), Exc: none, Slots: []api.Type{boolean(0), integer(1)}}
	for name, c := range map[string]struct {
		body []ir.Node
		want bool
	}{
		"none": {nil, true}, "4096": {slices.Repeat(listOf(ir.Node{Op: 1, Dst: 1}), 4096), true}, "4097": {slices.Repeat(listOf(ir.Node{Op: 1, Dst: 1}), 4097), false},
		"64 deep": {nestedIn(64, 1), true}, "65 deep": {nestedIn(65, 1), false}, "4096 within": {nestedIn(2, 4095), true}, "4097 within": {nestedIn(2, 4096), false}, "both": {nestedIn(64, 4033), true}, "both, and one more": {nestedIn(64, 4034), false},
	} {
		f.Body = c.body
		if c.want {
			answers(t, name, chain(), []ir.Fn{f}, 0, api.OK)
		} else {
			answers(t, name, chain(), []ir.Fn{f}, -1, api.ErrForm)
		}
		// each function has its own limit
		answers(t, name, chain(), []ir.Fn{f, f, f}, map[bool]int{false: -1}[c.want], map[bool]api.Errno{false: api.ErrForm}[c.want])
	}
}

// nestedIn is nodes within one another, of which the deepest, so deep, are so many.
func nestedIn(deep, many int) []ir.Node {
	body := slices.Repeat(listOf(ir.Node{Op: 1, Dst: 1}), many)
	for level := range deep - 1 {
		n := ir.Node{Op: 16 + level%2, Dst: 1, Body: body}
		if level%3 == 1 {
			n.Body, n.Else = nil, body
		}
		body = listOf(n)
	}
	return body
}

// TestHowManyFunctions (P10.1, P10.2): 1 to MaxFuncs, each of which is asked.
func TestHowManyFunctions(t *testing.T) {
	for _, many := range []int{0, 1, 2, 59, 60, 61, 1000} {
		fns := slices.Repeat([]ir.Fn{lone(1)}, many)
		if many == 0 || many > 60 {
			answers(t, "many", sets(), fns, -1, api.ErrForm)
			continue
		}
		answers(t, "many", sets(), fns, 0, api.OK)
		for _, k := range []int{0, many / 2, many - 1} {
			bad := slices.Clone(fns)
			bad[k] = with(lone(1), func(n *ir.Node) { n.Dst = -1 })
			answers(t, "one isn't shaped", sets(), bad, -1, api.ErrForm)
			bad[k] = with(lone(1), func(n *ir.Node) { n.Dst = 7 })
			answers(t, "one isn't right", sets(), bad, k, api.ErrVerify)
			// the first one is told
			bad[many-1] = bad[k]
			answers(t, "two aren't right", sets(), bad, k, api.ErrVerify)
			// that one isn't shaped is told ahead of that another isn't right
			bad[many-1] = with(lone(1), func(n *ir.Node) { n.Env = 8 })
			answers(t, "one isn't shaped, one not right", sets(), bad, -1, api.ErrForm)
		}
	}
	answers(t, "none", sets(), []ir.Fn{}, -1, api.ErrForm)
}

// TestSlots (P10.1): how many Caps and slots there may be, and which ones the first must be.
func TestSlots(t *testing.T) {
	plain := func(caps, slots int) ir.Fn {
		all := make([]api.Type, slots)
		for i := range all {
			all[i] = []api.Type{integer(0), boolean(0), ref(1, integer(0))}[i%3]
		}
		f := ir.Fn{Param: integer(0), Result: integer(0), Exc: none, Slots: all}
		for i := range caps {
			f.Caps = append(f.Caps, []api.Type{boolean(0), ref(1, integer(0)), integer(0)}[i%3])
		}
		return f
	}
	for _, c := range []struct {
		caps, slots int
		want        bool
	}{
		{0, 1, true}, {0, 0, false}, {0, 249, true}, {0, 250, true}, {0, 251, false}, {0, 5000, false}, {1, 2, true}, {1, 1, false}, {1, 0, false}, {16, 17, true}, {16, 16, false}, {15, 16, true}, {17, 18, false}, {17, 17, false}, {17, 250, false},
		{16, 250, true}, {16, 251, false}, {250, 250, false}, {300, 301, false},
	} {
		shapedIs(t, strconv.Itoa(c.caps)+", "+strconv.Itoa(c.slots), chain(), plain(c.caps, c.slots), c.want)
	}
	// each of the first must be the same type, not one that is below or above it
	for slot := range 4 {
		for _, other := range []api.Type{integer(1), boolean(1), ref(0, integer(0)), ref(1, integer(1)), pair(0, integer(0), integer(0))} {
			f := plain(3, 8)
			f.Slots[slot] = other
			shapedIs(t, "another slot", chain(), f, false)
		}
	}
	f := plain(3, 8)
	f.Param = integer(1)
	shapedIs(t, "another Param", chain(), f, false)
	f = plain(3, 8)
	f.Caps[2] = boolean(0)
	shapedIs(t, "another Cap", chain(), f, false)
	f = plain(3, 8)
	f.Caps = f.Caps[:2]
	shapedIs(t, "a Cap less", chain(), f, true)
}

// TestLastSlots (P10.2): the slots up to the last of MaxSlots are set, read and given.
func TestLastSlots(t *testing.T) {
	for _, many := range []int{2, 64, 65, 128, 249, 250} {
		f := ir.Fn{Param: integer(0), Result: integer(0), Exc: none, Slots: slices.Repeat([]api.Type{integer(0)}, many), Out: many - 1}
		answers(t, "not set", chain(), []ir.Fn{f}, 0, api.ErrVerify)
		f.Body = listOf(ir.Node{Op: 3, Dst: many - 1, A: 0})
		answers(t, "set", chain(), []ir.Fn{f}, 0, api.OK)
		f.Body = listOf(ir.Node{Op: 3, Dst: many - 1, A: many - 1})
		answers(t, "read", chain(), []ir.Fn{f}, 0, api.ErrVerify)
		f.Out = many
		answers(t, "one past it", chain(), []ir.Fn{f}, -1, api.ErrForm)
	}
	f := ir.Fn{Param: integer(0), Result: integer(0), Exc: none, Caps: slices.Repeat([]api.Type{integer(0)}, 16), Slots: slices.Repeat([]api.Type{integer(0)}, 18)}
	for out := range 18 {
		f.Out = out
		answers(t, "what is captured is set", chain(), []ir.Fn{f}, 0, map[bool]api.Errno{true: api.ErrVerify}[out == 17])
	}
}

// TestTypesOfFunctions (P10.1): all of a function's types are formed, those of slots that nothing uses too; so are its bounds and its Fun.
func TestTypesOfFunctions(t *testing.T) {
	good := ir.Fn{Param: integer(0), Result: integer(1), Heap: 1, Exc: 1, Caps: []api.Type{boolean(0), boolean(0)}, Slots: []api.Type{integer(0), boolean(0), boolean(0), integer(0), integer(0)}}
	shapedIs(t, "good", chain(), good, true)
	for _, odd := range unformedTypes() {
		f := good
		f.Result = odd
		shapedIs(t, "Result", chain(), f, false)
		for slot := range good.Slots {
			f := good
			f.Slots, f.Caps = slices.Clone(f.Slots), slices.Clone(f.Caps)
			f.Slots[slot] = odd
			if slot == 0 {
				f.Param = odd
			} else if slot < 3 {
				f.Caps[slot-1] = odd
			}
			shapedIs(t, "a slot", chain(), f, false)
		}
	}
	for _, label := range []int{0, 1, 2, -1, -2, math.MaxInt, math.MinInt} {
		f := good
		f.Heap = label
		shapedIs(t, "Heap", chain(), f, label == 0 || label == 1)
		f = good
		f.Exc = label
		shapedIs(t, "Exc", chain(), f, label == 0 || label == 1 || label == none)
		f = good
		f.Out = label
		shapedIs(t, "OUT", chain(), f, label >= none && label < 5)
	}
	for out := -3; out < 8; out++ {
		f := good
		f.Out = out
		shapedIs(t, "OUT", chain(), f, out >= none && out < 5)
	}
	// a Fun of a Param that is formed may be too deep, or too great
	for _, c := range []struct {
		param, result api.Type
		want          bool
	}{{refs(5), integer(0), true}, {refs(6), integer(0), false}, {integer(0), refs(5), true}, {integer(0), refs(6), false}, {tree(5), tree(3), true}, {tree(5), tree(4), false}} {
		shapedIs(t, "its Fun", chain(), ir.Fn{Param: c.param, Result: c.result, Exc: none, Slots: []api.Type{c.param, refs(6)}}, c.want)
	}
	// Caps and slots may be as deep as types may be
	shapedIs(t, "deep", chain(), ir.Fn{Param: integer(0), Result: integer(0), Exc: none, Caps: []api.Type{refs(6)}, Slots: []api.Type{integer(0), refs(6), refs(6)}}, true)
}

// TestUnformedLattices (P10.1, P10.2).
func TestUnformedLattices(t *testing.T) {
	for _, l := range unformedLattices() {
		answers(t, "a lattice that is none", l, []ir.Fn{{Param: integer(0), Result: integer(0), Exc: none, Slots: []api.Type{integer(0)}}}, -1, api.ErrForm)
		answers(t, "and no functions", l, nil, -1, api.ErrForm)
	}
}
