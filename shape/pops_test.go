package shape_test

import (
	"fmt"
	"math"
	"testing"

	"palisade/api"
	"palisade/shape"
)

// stack is how many values each Op but OpClose takes off the stack and puts there, by what api says of it.
var stack = map[int][2]int{
	api.OpInt: {0, 1}, api.OpBool: {0, 1}, api.OpLoad: {0, 1}, api.OpStore: {1, 0}, api.OpPop: {1, 0},
	api.OpAdd: {2, 1}, api.OpSub: {2, 1}, api.OpMul: {2, 1}, api.OpDiv: {2, 1}, api.OpMod: {2, 1}, api.OpLess: {2, 1}, api.OpSame: {2, 1},
	api.OpNot: {1, 1}, api.OpPair: {2, 1}, api.OpFirst: {1, 1}, api.OpSecond: {1, 1}, api.OpSelf: {0, 1}, api.OpCall: {2, 1},
	api.OpNew: {1, 1}, api.OpGet: {1, 1}, api.OpSet: {2, 0}, api.OpOut: {1, 0},
	api.OpJump: {0, 0}, api.OpUnless: {1, 0}, api.OpRaise: {1, 0}, api.OpReturn: {1, 0},
}

func pops(t *testing.T, name string, f api.Func, c api.Class, at, takes, puts int) {
	t.Helper()
	if a, b := shape.Pops(f, c, at); a != takes || b != puts {
		t.Errorf("%s: takes %d and puts %d, not %d and %d", name, a, b, takes, puts)
	}
}

// TestPops (P14.2): every Op, whatever its number, in classes that are formed and such as aren't.
func TestPops(t *testing.T) {
	classes := []api.Class{{}, classOf(chain()), classOf(chain(), long(2)), classOf(cube(), breaking()...), classOf(api.Lattice{}, repeat(api.Func{Caps: make([]api.Type, 20)}, 70)...)}
	if len(stack) != api.OpReturn-1 {
		t.Fatal("an Op lacks")
	}
	for which, want := range stack {
		for _, a := range []int64{math.MinInt64, -1, 0, 1, 2, 70, 65535, 65536, math.MaxInt64} {
			for k, c := range classes {
				for at := range 4 {
					f := api.Func{Code: repeat(api.Ins{Op: api.OpSelf}, 4)}
					f.Code[at] = api.Ins{Op: which, A: a}
					pops(t, fmt.Sprint("Op ", which, " of ", a, " at ", at, ", class ", k), f, c, at, want[0], want[1])
				}
			}
		}
	}
}

// TestPopsOfNoOp (P14.2): numbers that are no Op.
func TestPopsOfNoOp(t *testing.T) {
	for _, which := range []int{math.MinInt, math.MinInt32, -28, -27, -1, 0, 28, 29, 256, 256 + api.OpCall, 65536 + api.OpAdd, 1<<32 + api.OpAdd, math.MaxInt32, math.MaxInt} {
		for _, a := range []int64{0, 1, -1} {
			f := api.Func{Caps: repeat(integer(0), 3), Code: []api.Ins{{Op: which, A: a}, {Op: api.OpReturn}}}
			pops(t, fmt.Sprint("Op ", which), f, classOf(chain(), f), 0, 0, 0)
		}
	}
}

// TestPopsOfNoPlace (P14.2): places that are none.
func TestPopsOfNoPlace(t *testing.T) {
	for _, n := range []int{0, 1, 2, 2000, 3000} {
		f := api.Func{Code: repeat(api.Ins{Op: api.OpAdd}, n)}
		for _, at := range []int{math.MinInt, math.MinInt32, -2, -1, n, n + 1, 65536 + n, math.MaxInt32, 1 << 32, math.MaxInt} {
			pops(t, fmt.Sprint(at, " of ", n), f, classOf(chain(), long(2), f), at, 0, 0)
		}
		for _, at := range []int{0, n - 1} {
			if n > 0 {
				pops(t, fmt.Sprint(at, " of ", n), f, classOf(chain(), long(2), f), at, 2, 1)
			}
		}
	}
}

// TestPopsOfClose (P14.2): an OpClose takes as many as the function that it names has Caps, and that is one of c.
func TestPopsOfClose(t *testing.T) {
	caps := []int{0, 1, 2, 15, 16, 17, 300}
	var c api.Class
	for _, n := range caps {
		c.Funcs = append(c.Funcs, api.Func{Caps: make([]api.Type, n)})
	}
	for _, own := range []int{0, 5} {
		for a := -2; a < len(caps)+3; a++ {
			f := api.Func{Caps: repeat(integer(0), own), Code: []api.Ins{op(api.OpInt), op(api.OpClose, a), op(api.OpReturn)}}
			takes, puts := 0, 0
			if a >= 0 && a < len(caps) {
				takes, puts = caps[a], 1
			}
			pops(t, fmt.Sprint("function ", a), f, c, 1, takes, puts)
			pops(t, fmt.Sprint("function ", a, " of none"), f, api.Class{}, 1, 0, 0)
		}
		for _, a := range []int64{math.MinInt64, math.MinInt64 + 1, -1 << 32, 1 << 16, 1 << 32, 1<<32 + 1, math.MaxInt32, math.MaxInt64} {
			f := api.Func{Caps: repeat(integer(0), own), Code: []api.Ins{{Op: api.OpClose, A: a}}}
			pops(t, fmt.Sprint("function ", a), f, c, 0, 0, 0)
		}
	}
	// Also one that is behind as many as a formed class may have.
	c.Funcs = append(make([]api.Func, 100), c.Funcs...)
	pops(t, "function 104", api.Func{Code: []api.Ins{op(api.OpClose, 104)}}, c, 0, 16, 1)
	pops(t, "function 99", api.Func{Code: []api.Ins{op(api.OpClose, 99)}}, c, 0, 0, 1)
	// In a formed class, of the function itself, of one without Caps, and of one that there isn't.
	f := slotted(function(op(api.OpClose, 0), op(api.OpClose, 1), op(api.OpClose, 2), op(api.OpReturn)), 4)
	f.Caps = repeat(integer(1), 3)
	whole := classOf(chain(), f, long(2))
	pops(t, "itself", f, whole, 0, 3, 1)
	pops(t, "without Caps", f, whole, 1, 0, 1)
	pops(t, "one that there isn't", f, whole, 2, 0, 0)
	pops(t, "behind it", f, whole, 3, 1, 0)
}

// TestPopsOfWellFormed (P14.2, P14.3): in what is well formed each instruction is there, with what it names: just OpJump moves nothing.
func TestPopsOfWellFormed(t *testing.T) {
	c := full()
	for _, f := range c.Funcs {
		for at, i := range f.Code {
			a, b := shape.Pops(f, c, at)
			if (a+b == 0) != (i.Op == api.OpJump) {
				t.Errorf("Op %d at %d: %d and %d", i.Op, at, a, b)
			}
		}
	}
}
