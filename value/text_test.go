package value_test

import (
	"math"
	"strings"
	"testing"

	"palisade/api"
	"palisade/value"
)

// TestText (P3.3).
func TestText(t *testing.T) {
	for _, x := range []struct {
		v    api.Value
		want string
	}{
		{num(0), "0"}, {num(5), "5"}, {num(-1), "-1"}, {num(1234567890), "1234567890"}, {num(math.MaxInt64), "9223372036854775807"}, {num(math.MinInt64), "-9223372036854775808"},
		{truth(0), "false"}, {truth(1), "true"},
		{pair(num(7), truth(1)), "(7, true)"}, {pair(pair(num(1), num(-2)), pair(truth(0), ref(0))), "((1, -2), (false, ref 0))"},
		{fun(0), "fun 0"}, {fun(59), "fun 59"}, {fun(2, num(5)), "fun 2 [5]"}, {fun(2, num(5), truth(0)), "fun 2 [5, false]"}, {fun(2, num(-5), pair(num(1), num(2)), fun(3)), "fun 2 [-5, (1, 2), fun 3]"},
		{fun(1, fun(2, fun(3, num(4))), fun(5)), "fun 1 [fun 2 [fun 3 [4]], fun 5]"}, {api.Value{Kind: api.Fun, N: 4, Parts: []api.Value{}}, "fun 4"},
		{ref(0), "ref 0"}, {ref(3), "ref 3"}, {ref(1<<31 - 1), "ref 2147483647"}, {pair(ref(1), ref(2)), "(ref 1, ref 2)"},
	} {
		if got, e := value.Text(x.v); got != x.want || e != api.OK {
			t.Errorf("%q, %d, want %q", got, e, x.want)
		}
	}
}

// TestTextOfNone (P3.3, R3): ErrForm, and no text beside it.
func TestTextOfNone(t *testing.T) {
	for i, v := range []api.Value{
		{}, {Kind: 6}, {Kind: -1}, {Kind: api.Int, Parts: []api.Value{num(1)}}, truth(2), truth(-1), ref(-1), ref(1 << 31), fun(-1), fun(60),
		{Kind: api.Pair}, {Kind: api.Pair, N: 1, Parts: []api.Value{num(1), num(2)}}, {Kind: api.Pair, Parts: []api.Value{num(1)}}, {Kind: api.Pair, Parts: []api.Value{num(1), num(2), num(3)}},
		pair(num(1), api.Value{}), fun(1, num(1), truth(2)), wide(2001, num(1)), funs(2001, num(1)), pairs(1001, true), pairs(1001, false), funs(1_000_000, num(1)), wide(1_000_000, num(1)),
	} {
		if got, e := value.Text(v); got != "" || e != api.ErrForm {
			t.Errorf("%d: %q, %d", i, got, e)
		}
	}
}

// TestTextOfGreat (P3.3): of MaxValue nodes.
func TestTextOfGreat(t *testing.T) {
	if got, e := value.Text(funs(2000, num(-8))); e != api.OK || got != strings.Repeat("fun 0 [", 1999)+"-8"+strings.Repeat("]", 1999) {
		t.Error("deep", e)
	}
	for _, v := range []api.Value{wide(2000, ref(7)), pairs(1000, true), pairs(1000, false), pair(wide(998, truth(1)), wide(1001, num(math.MinInt64)))} {
		if got, e := value.Text(v); e != api.OK || got != refText(v) {
			t.Error(e, got)
		}
	}
}

// TestUnlikeTexts (P3.4): unlike formed values have unlike texts, like ones like.
func TestUnlikeTexts(t *testing.T) {
	simple := []api.Value{num(0), num(1), num(-1), num(11), truth(0), truth(1), ref(0), ref(1), ref(11), fun(0), fun(1), fun(11)}
	all := simple
	for _, v := range simple {
		all = append(all, fun(0, v), fun(1, v))
		for _, w := range simple {
			all = append(all, pair(v, w), fun(1, v, w), fun(1, fun(1, v), w), fun(1, fun(1, v, w)), fun(1, pair(v, w)), fun(1, v, fun(1, w)), pair(fun(1, v), w), pair(pair(v, w), w), pair(v, pair(w, w)), fun(1, v, w, w))
		}
	}
	told := map[string]api.Value{}
	for _, v := range all {
		text, e := value.Text(v)
		if e != api.OK || text != refText(v) {
			t.Fatal(v, text, e)
		}
		if other, is := told[text]; is && !refSame(v, other) {
			t.Errorf("%q is told of %v and of %v", text, v, other)
		}
		told[text] = v
	}
	if len(told) < 1000 {
		t.Error("there are few texts:", len(told))
	}
}
