package eval_test

import (
	"math"
	"math/big"
	"math/rand"
	"reflect"
	"testing"

	"palisade/api"
	"palisade/eval"
)

// reckoned is Reckon by numbers of any size.
func reckoned(op int, a, b int64) (api.Value, bool) {
	x, y, z := big.NewInt(a), big.NewInt(b), new(big.Int)
	switch op {
	case api.OpAdd:
		z.Add(x, y)
	case api.OpSub:
		z.Sub(x, y)
	case api.OpMul:
		z.Mul(x, y)
	case api.OpDiv, api.OpMod:
		if b == 0 {
			return api.Value{}, false
		}
		rest := new(big.Int)
		z.QuoRem(x, y, rest)
		if op == api.OpMod {
			z = rest
		}
	case api.OpLess, api.OpSame:
		want := map[int]int{api.OpLess: -1, api.OpSame: 0}[op]
		if x.Cmp(y) == want {
			return boolean(1), true
		}
		return boolean(0), true
	default:
		return api.Value{}, false
	}
	// modulo 2^64, from -2^63 on
	two := new(big.Int).Lsh(big.NewInt(1), 64)
	z.Mod(z, two)
	if z.Bit(63) == 1 {
		z.Sub(z, two)
	}
	return integer(z.Int64()), true
}

func wantReckoned(t *testing.T, op int, a, b int64) {
	t.Helper()
	want, wantOK := reckoned(op, a, b)
	if got, ok := eval.Reckon(op, a, b); ok != wantOK || !reflect.DeepEqual(got, want) {
		t.Errorf("op %d of %d, %d: %v, %v; want %v, %v", op, a, b, got, ok, want, wantOK)
	}
}

// TestReckon (P9.2): all ops, of numbers at the edges and of drawn ones; and what is no op.
func TestReckon(t *testing.T) {
	edges := []int64{0, 1, -1, 2, -2, 3, -3, 7, -7, 10, 1 << 31, -1 << 31, 1<<32 - 1, 1 << 32, 3037000500, math.MaxInt64, math.MaxInt64 - 1, math.MinInt64, math.MinInt64 + 1}
	for op := -3; op <= api.OpReturn+1; op++ {
		for _, a := range edges {
			for _, b := range edges {
				wantReckoned(t, op, a, b)
			}
		}
	}
	draw := rand.New(rand.NewSource(92))
	for range 20000 {
		wantReckoned(t, api.OpAdd+draw.Intn(7), int64(draw.Uint64())>>draw.Intn(64), int64(draw.Uint64())>>draw.Intn(64))
	}
	for _, op := range []int{math.MinInt, -1, 0, api.OpAdd - 1, api.OpSame + 1, api.OpNot, 1 << 32, 1<<32 + api.OpAdd, math.MaxInt} {
		if v, ok := eval.Reckon(op, 3, 2); ok || !reflect.DeepEqual(v, api.Value{}) {
			t.Errorf("op %d: %v, %v", op, v, ok)
		}
	}
}

// TestReckonPlain (P9.2): some answers, as they are.
func TestReckonPlain(t *testing.T) {
	for _, c := range []struct {
		op   int
		a, b int64
		want string
	}{
		{api.OpAdd, 2, 3, "5"}, {api.OpAdd, math.MaxInt64, 1, "-9223372036854775808"}, {api.OpSub, 2, 3, "-1"}, {api.OpSub, math.MinInt64, 1, "9223372036854775807"},
		{api.OpMul, -4, 3, "-12"}, {api.OpMul, 1 << 32, 1 << 32, "0"}, {api.OpMul, math.MinInt64, -1, "-9223372036854775808"},
		{api.OpDiv, -7, 2, "-3"}, {api.OpDiv, 7, -2, "-3"}, {api.OpDiv, math.MinInt64, -1, "-9223372036854775808"}, {api.OpDiv, 0, 5, "0"},
		{api.OpMod, -7, 2, "-1"}, {api.OpMod, 7, -2, "1"}, {api.OpMod, math.MinInt64, -1, "0"},
		{api.OpLess, -1, 0, "true"}, {api.OpLess, 0, 0, "false"}, {api.OpLess, math.MaxInt64, math.MinInt64, "false"},
		{api.OpSame, 5, 5, "true"}, {api.OpSame, 5, -5, "false"}, {api.OpSame, 0, 1 << 32, "false"},
		{api.OpDiv, 1, 0, "none"}, {api.OpMod, 0, 0, "none"},
	} {
		if v, ok := eval.Reckon(c.op, c.a, c.b); text(v) != c.want || ok != (c.want != "none") {
			t.Errorf("op %d of %d, %d: %s, %v; want %s", c.op, c.a, c.b, text(v), ok, c.want)
		}
	}
}
