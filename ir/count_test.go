package ir_test

import (
	"math/rand"
	"reflect"
	"testing"

	"palisade/api"
	"palisade/ir"
)

// nested is nodes within one another, so deep; those of which it holds stand in Else.
func nested(deep int, inElse func(level int) bool) []ir.Node {
	var body []ir.Node
	for level := range deep {
		n := ir.Node{Op: 16 + level%2}
		if inElse(level) {
			n.Else = body
		} else {
			n.Body = body
		}
		body = listOf(n)
	}
	return body
}

func never(int) bool {
	return false
}

func always(int) bool {
	return true
}

func atTimes(level int) bool {
	return level%3 == 0
}

// flat is so many nodes side by side.
func flat(n int) []ir.Node {
	body := make([]ir.Node, n)
	for i := range body {
		body[i].Op = 1
	}
	return body
}

// TestCount (P10.1): nodes side by side, in Body, in Else, up to both limits and behind them.
func TestCount(t *testing.T) {
	within := func(body, other []ir.Node) []ir.Node { return listOf(ir.Node{Op: 16, Body: body, Else: other}) }
	for i, c := range []struct {
		body []ir.Node
		want int
	}{
		{nil, 0}, {[]ir.Node{}, 0}, {flat(1), 1}, {flat(2), 2}, {flat(4095), 4095}, {flat(4096), 4096}, {flat(4097), 4097}, {flat(4098), 4097}, {flat(100_000), 4097},
		{within(flat(3), nil), 4}, {within(nil, flat(3)), 4}, {within(flat(3), flat(5)), 9}, {append(within(flat(3), flat(5)), flat(2)...), 11}, {append(flat(2), within(flat(3), flat(5))...), 11},
		{within(flat(4095), nil), 4096}, {within(flat(4096), nil), 4097}, {within(nil, flat(4095)), 4096}, {within(nil, flat(4096)), 4097}, {within(flat(2000), flat(2095)), 4096}, {within(flat(2000), flat(2096)), 4097},
		{append(within(flat(4094), nil), flat(1)...), 4096}, {append(within(flat(4094), nil), flat(2)...), 4097}, {append(within(flat(4095), nil), flat(1)...), 4097}, {append(within(flat(5000), nil), flat(1)...), 4097},
		{within(flat(5000), flat(1)), 4097}, {within(flat(5000), flat(5000)), 4097},
		{nested(63, never), 63}, {nested(64, never), 64}, {nested(65, never), 4097}, {nested(64, always), 64}, {nested(65, always), 4097}, {nested(64, atTimes), 64}, {nested(65, atTimes), 4097}, {nested(5000, never), 4097},
		{append(flat(3), nested(64, never)...), 67}, {append(nested(64, never), flat(3)...), 67}, {append(flat(3), nested(65, never)...), 4097}, {append(nested(65, always), flat(3)...), 4097},
		{append(nested(64, never), nested(64, always)...), 128}, {append(nested(64, never), nested(65, always)...), 4097}, {within(nested(63, never), nested(63, always)), 127}, {within(nested(63, never), nested(64, always)), 4097},
		// the node that is 64 deep may have lists, if they are of no elements
		{nestedEnd(64, ir.Node{Op: 16, Body: []ir.Node{}, Else: []ir.Node{}}), 64}, {nestedEnd(64, ir.Node{Op: 16, Else: flat(1)}), 4097},
		// what an Op is plays no part
		{listOf(ir.Node{}), 1}, {listOf(ir.Node{Op: -7, Body: flat(2)}, ir.Node{Op: 99, Else: flat(3)}, ir.Node{Op: 1, Body: flat(1), Else: flat(1)}), 10},
	} {
		if got := ir.Count(c.body); got != c.want {
			t.Errorf("%d: %d; want %d", i, got, c.want)
		}
	}
}

// nestedEnd is nodes within one another, so deep, that one being the deepest.
func nestedEnd(deep int, last ir.Node) []ir.Node {
	body := listOf(last)
	for range deep - 1 {
		body = listOf(ir.Node{Op: 17, Body: body})
	}
	return body
}

// TestCountDrawn (P10.1): drawn trees of nodes, held against going through all of it.
func TestCountDrawn(t *testing.T) {
	draw := rand.New(rand.NewSource(10))
	met := map[bool]int{}
	for n := range 400 {
		left := 1 + draw.Intn(9000)
		body := drawnTree(draw, &left, 1+draw.Intn(70), n%2 == 0)
		nodes, deep := plainCount(body)
		want := nodes
		if nodes > 4096 || deep > 64 {
			want = 4097
		}
		met[want == 4097]++
		if got := ir.Count(body); got != want {
			t.Fatalf("%d nodes, %d deep: %d", nodes, deep, got)
		}
	}
	if met[true] < 50 || met[false] < 50 {
		t.Error(met)
	}
}

// drawnTree is nodes, at most as many as are left and so deep; narrow trees are deep.
func drawnTree(draw *rand.Rand, left *int, deep int, narrow bool) []ir.Node {
	var body []ir.Node
	wide := 1 + draw.Intn(40)
	if narrow {
		wide = 1 + draw.Intn(2)
	}
	for range wide {
		if *left == 0 || deep == 0 {
			break
		}
		*left--
		n := ir.Node{Op: 1}
		if narrow || draw.Intn(4) == 0 {
			n = ir.Node{Op: 16, Body: drawnTree(draw, left, deep-1, narrow), Else: drawnTree(draw, left, deep-1, false)}
		}
		body = append(body, n)
	}
	return body
}

func plainCount(body []ir.Node) (nodes, deep int) {
	for _, n := range body {
		one, first := plainCount(n.Body)
		other, second := plainCount(n.Else)
		nodes, deep = nodes+1+one+other, max(deep, 1+first, 1+second)
	}
	return nodes, deep
}

// TestSig (P10.1): the Fun of the bottom, wherever that stands; nothing else of a function plays a part.
func TestSig(t *testing.T) {
	p, q := pair(lA, integer(lB), boolean(lC)), ref(lAB, fun(lO, integer(lA), boolean(lB), lAC, none))
	f := ir.Fn{Param: p, Result: q, Heap: lBC, Exc: lAC}
	if got := ir.Sig(sets(), f); !reflect.DeepEqual(got, fun(lO, p, q, lBC, lAC)) {
		t.Error(got)
	}
	f.Exc = none
	if got := ir.Sig(sets(), f); !reflect.DeepEqual(got, fun(lO, p, q, lBC, none)) {
		t.Error(got)
	}
	f.Caps, f.Slots, f.Body, f.Out = []api.Type{{Kind: 77}}, make([]api.Type, 900), listOf(ir.Node{Op: -1}), -9
	if got := ir.Sig(sets(), f); !reflect.DeepEqual(got, fun(lO, p, q, lBC, none)) {
		t.Error(got)
	}
	for label := range 8 {
		f.Heap, f.Exc = label, label
		if got := ir.Sig(sets(), f); !reflect.DeepEqual(got, fun(lO, p, q, label, label)) {
			t.Error(got)
		}
	}
}

// TestSigUnformed (P10.1): the zero type of what isn't formed, whichever part of it isn't.
func TestSigUnformed(t *testing.T) {
	good := ir.Fn{Param: integer(0), Result: boolean(1), Heap: 1, Exc: 0}
	if got := ir.Sig(chain(), good); !reflect.DeepEqual(got, fun(0, integer(0), boolean(1), 1, 0)) {
		t.Error(got)
	}
	zero := func(l api.Lattice, f ir.Fn) {
		t.Helper()
		if got := ir.Sig(l, f); !reflect.DeepEqual(got, api.Type{}) {
			t.Errorf("%+v: %v", f, got)
		}
	}
	for _, l := range unformedLattices() {
		zero(l, good)
	}
	for _, odd := range unformedTypes() {
		f := good
		f.Param = odd
		zero(chain(), f)
		f = good
		f.Result = odd
		zero(chain(), f)
	}
	for _, label := range []int{-1, -2, 2, 1 << 40} {
		f := good
		f.Heap = label
		zero(chain(), f)
		f = good
		if f.Exc = label; label != none {
			zero(chain(), f)
		}
	}
	// as deep as a type may be it is too deep for a Fun's; and so with the nodes
	for _, c := range []struct {
		param, result api.Type
		formed        bool
	}{
		{refs(5), integer(0), true}, {refs(6), integer(0), false}, {integer(0), refs(5), true}, {integer(0), refs(6), false},
		// 39 nodes, 40, 41, and 47
		{tree(5), tree(3), true}, {tree(5), ref(0, tree(3)), true}, {tree(5), pair(0, tree(3), integer(0)), false}, {tree(5), tree(4), false},
		{ref(0, tree(4)), pair(0, tree(4), tree(3)), true}, {ref(0, ref(0, tree(4))), pair(0, tree(4), tree(3)), false},
	} {
		f := ir.Fn{Param: c.param, Result: c.result, Exc: none}
		if got := ir.Sig(chain(), f); c.formed != reflect.DeepEqual(got, fun(0, c.param, c.result, 0, none)) || !c.formed && !reflect.DeepEqual(got, api.Type{}) {
			t.Errorf("%v: %v", c, got)
		}
	}
}

// unformedTypes are none of chain, each by something else.
func unformedTypes() []api.Type {
	return []api.Type{
		{}, {Kind: 6}, {Kind: -1}, integer(2), integer(-1), {Kind: api.Int, Heap: 1}, {Kind: api.Bool, Exc: -1}, {Kind: api.Int, Parts: []api.Type{integer(0)}}, {Kind: api.Pair, Parts: []api.Type{integer(0)}},
		{Kind: api.Ref}, {Kind: api.Ref, Parts: []api.Type{integer(0), integer(0)}}, pair(0, integer(0), integer(2)), ref(0, api.Type{}), fun(0, integer(0), integer(0), 2, none), fun(0, integer(0), integer(0), 0, -2), fun(0, integer(0), integer(0), -1, 0),
		refs(7), tree(6), refs(100_000),
	}
}
