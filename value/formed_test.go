package value_test

import (
	"math"
	"testing"

	"palisade/api"
	"palisade/value"
)

// TestNodes (P3.1): MaxValue, one more, many more; of values that aren't formed too.
func TestNodes(t *testing.T) {
	for i, x := range []struct {
		v    api.Value
		want int
	}{
		{api.Value{}, 1}, {num(7), 1}, {pair(num(7), truth(1)), 3}, {fun(0), 1}, {fun(2, num(5)), 2}, {ref(3), 1},
		{api.Value{Kind: 9, N: -5, Parts: []api.Value{num(1), pair(num(1), num(2)), {}}}, 6},
		{wide(1999, num(0)), 1999}, {wide(2000, num(0)), 2000}, {wide(2001, num(0)), 2001}, {wide(2002, num(0)), 2001}, {wide(5000, num(0)), 2001},
		{funs(1999, num(0)), 1999}, {funs(2000, num(0)), 2000}, {funs(2001, num(0)), 2001}, {funs(2002, num(0)), 2001}, {funs(100_000, num(0)), 2001},
		{pairs(1000, true), 1999}, {pairs(1001, true), 2001}, {pairs(1002, true), 2001}, {pairs(1000, false), 1999}, {pairs(1001, false), 2001}, {pairs(1002, false), 2001},
		{pair(wide(998, num(0)), wide(1001, num(0))), 2000}, {pair(wide(999, num(0)), wide(1001, num(0))), 2001}, {pair(wide(2000, num(0)), wide(2000, num(0))), 2001},
		{api.Value{Kind: api.Int, Parts: make([]api.Value, 1999)}, 2000}, {api.Value{Kind: api.Int, Parts: make([]api.Value, 2000)}, 2001},
	} {
		if got := value.Nodes(x.v); got != x.want {
			t.Errorf("%d: %d, want %d", i, got, x.want)
		}
	}
}

// TestFormedSizes (P3.1): at most MaxValue nodes in all, of whatever form.
func TestFormedSizes(t *testing.T) {
	for i, x := range []struct {
		v    api.Value
		want bool
	}{
		{wide(2000, num(0)), true}, {wide(2001, num(0)), false}, {wide(2002, num(0)), false},
		{funs(2000, num(0)), true}, {funs(2001, num(0)), false}, {funs(2002, num(0)), false},
		{pairs(1000, true), true}, {pairs(1001, true), false}, {pairs(1000, false), true}, {pairs(1001, false), false},
		{pair(wide(998, num(0)), wide(1001, num(0))), true}, {pair(wide(999, num(0)), wide(1001, num(0))), false},
		{fun(0, pairs(1000, true)), true}, {fun(0, pairs(1000, true), num(0)), false}, {fun(0, wide(1999, num(0))), true}, {fun(0, wide(2000, num(0))), false},
		{wide(2000, truth(2)), false}, {funs(2000, truth(2)), false}, {wide(2000, truth(1)), true}, {funs(2000, ref(-1)), false},
	} {
		if got := value.Formed(x.v); got != x.want {
			t.Errorf("%d: %v", i, got)
		}
	}
}

// TestFormedWords (P3.1): each of the chapter's words by itself.
func TestFormedWords(t *testing.T) {
	parts := func(n int) []api.Value { return []api.Value{num(0), num(1), num(2)}[:n] }
	for _, x := range []struct {
		what string
		v    api.Value
		want bool
	}{
		{"zero value", api.Value{}, false},
		{"a Kind after the last", api.Value{Kind: 6}, false},
		{"a Kind ahead of the first", api.Value{Kind: -1}, false},
		{"an Int", num(7), true},
		{"an Int below 0", num(-1), true},
		{"the least Int", num(math.MinInt64), true},
		{"the greatest Int", num(math.MaxInt64), true},
		{"an Int with a part", api.Value{Kind: api.Int, Parts: parts(1)}, false},
		{"an Int with no parts, not nil", api.Value{Kind: api.Int, Parts: []api.Value{}}, true},
		{"false", truth(0), true},
		{"true", truth(1), true},
		{"a Bool of 2", truth(2), false},
		{"a Bool of -1", truth(-1), false},
		{"a Bool of 2^32", truth(1 << 32), false},
		{"a Bool of 2^32 + 1", truth(1<<32 + 1), false},
		{"a Bool with a part", api.Value{Kind: api.Bool, Parts: parts(1)}, false},
		{"a Pair of none", api.Value{Kind: api.Pair}, false},
		{"a Pair of one", api.Value{Kind: api.Pair, Parts: parts(1)}, false},
		{"a Pair of two", api.Value{Kind: api.Pair, Parts: parts(2)}, true},
		{"a Pair of three", api.Value{Kind: api.Pair, Parts: parts(3)}, false},
		{"a Pair with N 1", api.Value{Kind: api.Pair, N: 1, Parts: parts(2)}, false},
		{"a Pair with N -1", api.Value{Kind: api.Pair, N: -1, Parts: parts(2)}, false},
		{"a Fun that has captured nothing", fun(0), true},
		{"a Fun that has captured one", fun(0, num(0)), true},
		{"a Fun that has captured more", fun(0, parts(3)...), true},
		{"a Fun that has captured more than functions have Caps", wide(api.MaxCaps+3, num(0)), true},
		{"a Fun of MaxFuncs - 1", fun(api.MaxFuncs - 1), true},
		{"a Fun of MaxFuncs", fun(api.MaxFuncs), false},
		{"a Fun of -1", fun(-1), false},
		{"a Fun of 2^32", fun(1 << 32), false},
		{"a Ref", ref(0), true},
		{"a Ref of 2^31 - 1", ref(1<<31 - 1), true},
		{"a Ref of 2^31", ref(1 << 31), false},
		{"a Ref of 2^32", ref(1 << 32), false},
		{"a Ref of -1", ref(-1), false},
		{"a Ref with a part", api.Value{Kind: api.Ref, Parts: parts(1)}, false},
		{"a Pair whose first isn't formed", pair(truth(2), num(0)), false},
		{"a Pair whose second isn't formed", pair(num(0), api.Value{}), false},
		{"a Fun whose last part isn't formed", fun(0, num(0), num(1), ref(-1)), false},
		{"a part of a part that isn't formed", pair(num(0), fun(1, pair(truth(3), num(0)))), false},
	} {
		if got := value.Formed(x.v); got != x.want {
			t.Errorf("%s: %v", x.what, got)
		}
	}
}

// samples are values that are formed, of all Kinds.
func samples() []api.Value {
	return []api.Value{
		num(0), num(-7), num(math.MinInt64), truth(0), truth(1), ref(0), ref(1<<31 - 1), fun(0), fun(59, num(5)),
		pair(num(7), truth(1)), pair(pair(ref(2), num(1)), fun(3, truth(0), fun(4), ref(1))), fun(1, pair(num(1), num(2)), num(3)),
	}
}

// changed are values that differ from v in one thing of one node, and v.
func changed(v api.Value) []api.Value {
	var all []api.Value
	for _, kind := range []int{0, 1, 2, 3, 4, 5, 6, -1, math.MaxInt, math.MinInt} {
		other := v
		other.Kind = kind
		all = append(all, other)
	}
	for _, n := range numbers {
		other := v
		other.N = n
		all = append(all, other)
	}
	for n := range 5 {
		other := v
		other.Parts = append(copied(v).Parts, num(0), num(1), num(2), num(3))[:n]
		all = append(all, other)
	}
	for i, part := range v.Parts {
		for _, otherPart := range changed(part) {
			other := copied(v)
			other.Parts[i] = otherPart
			all = append(all, other)
		}
	}
	return all
}

// TestChangedValues (P3.1, P3.3): one thing of one node changed, against the reference.
func TestChangedValues(t *testing.T) {
	for _, v := range samples() {
		if !value.Formed(v) || !value.Same(v, copied(v)) {
			t.Errorf("%v", v)
		}
		for _, other := range changed(v) {
			if value.Formed(other) != refFormed(other) || value.Nodes(other) != refNodes(other) {
				t.Fatalf("of %v: Formed %v, %d nodes", other, value.Formed(other), value.Nodes(other))
			}
			if same := refSame(v, other); value.Same(v, other) != same || value.Same(other, v) != same || !value.Same(other, copied(other)) {
				t.Fatalf("Same of %v and %v", v, other)
			}
			text, e := value.Text(other)
			if refFormed(other) && (e != api.OK || text != refText(other)) || !refFormed(other) && (e != api.ErrForm || text != "") {
				t.Fatalf("Text of %v: %q, %d", other, text, e)
			}
		}
	}
}

// TestSame (P3.1): each two of many values, formed or not.
func TestSame(t *testing.T) {
	var all []api.Value
	for _, v := range samples()[8:] {
		all = append(all, changed(v)...)
	}
	for _, v := range all {
		for _, w := range all {
			if value.Same(v, w) != refSame(v, w) {
				t.Fatalf("Same of %v and %v", v, w)
			}
		}
	}
	if !value.Same(api.Value{Kind: api.Fun, Parts: []api.Value{}}, fun(0)) || !value.Same(api.Value{}, api.Value{}) || value.Same(fun(0, fun(1)), fun(0, fun(1), fun(1))) {
		t.Error("Parts")
	}
}
