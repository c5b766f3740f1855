package flow_test

import (
	"slices"
	"testing"

	"palisade/api"
	"palisade/flow"
)

const none = api.None

func repeat[T any](v T, n int) []T {
	return slices.Repeat([]T{v}, n)
}

// op is an instruction of that Op and that number.
func op(op int, a ...int) api.Ins {
	i := api.Ins{Op: op}
	if len(a) > 0 {
		i.A = int64(a[0])
	}
	return i
}

func function(code ...api.Ins) api.Func {
	return api.Func{Code: code}
}

// long has n instructions, the last of which is an OpReturn.
func long(n int) api.Func {
	return function(append(repeat(op(api.OpInt, 7), n-1), op(api.OpReturn))...)
}

// putting is long(n) with another instruction at that place.
func putting(n, at int, i api.Ins) api.Func {
	f := long(n)
	f.Code[at] = i
	return f
}

func handled(f api.Func, all ...api.Handler) api.Func {
	f.Handlers = all
	return f
}

// always are RAISES of n places, all of them true.
func always(n int) []bool {
	return repeat(true, n)
}

// mayRaise are the Ops that raise, if RAISES says so of calls.
var mayRaise = []int{api.OpDiv, api.OpMod, api.OpCall, api.OpRaise}

// numbers are all Ops, 0, and numbers that are no Op.
func numbers() []int {
	all := []int{-1 << 63, -1 << 31, -28, -27, -19, -9, -1, 28, 29, 255, 256, 256 + api.OpJump, 1<<32 + api.OpReturn, 1 << 32, 1<<63 - 1}
	for which := range api.OpReturn + 1 {
		all = append(all, which)
	}
	return all
}

// goes asks for those ways, of the package and of the reference.
func goes(t *testing.T, name string, f api.Func, raises []bool, at int, want ...int) {
	t.Helper()
	if got := flow.Ways(f, raises, at); !slices.Equal(got, want) {
		t.Errorf("%s: the ways from %d are %v, not %v", name, at, got, want)
	}
	if got := refWays(f, raises, at); !slices.Equal(got, want) {
		t.Errorf("%s: by the reference the ways from %d are %v, not %v", name, at, got, want)
	}
}

// takes asks for that handler.
func takes(t *testing.T, name string, f api.Func, at, want int) {
	t.Helper()
	if got := flow.Handler(f, at); got != want {
		t.Errorf("%s: the handler of %d is %d, not %d", name, at, got, want)
	}
	if got := refHandler(f, at); got != want {
		t.Errorf("%s: by the reference the handler of %d is %d, not %d", name, at, got, want)
	}
}

// reaches asks for those places.
func reaches(t *testing.T, name string, f api.Func, raises []bool, from []int, stop int, want ...int) {
	t.Helper()
	if got := flow.Reach(f, raises, from, stop); !slices.Equal(got, want) {
		t.Errorf("%s: from %v, stop %d: %v, not %v", name, from, stop, got, want)
	}
	if got := refReach(f, raises, from, stop); !slices.Equal(got, want) {
		t.Errorf("%s: from %v, stop %d: by the reference %v, not %v", name, from, stop, got, want)
	}
}

// says asks for what Raises, Leaves and Branches tell.
func says(t *testing.T, name string, f api.Func, raises []bool, at int, raising, leaving, branching bool) {
	t.Helper()
	want := [3]bool{raising, leaving, branching}
	if got := [3]bool{flow.Raises(f, raises, at), flow.Leaves(f, raises, at), flow.Branches(f, raises, at)}; got != want {
		t.Errorf("%s: whether %d raises, leaves, branches: %v, not %v", name, at, got, want)
	}
	if got := [3]bool{refRaises(f, raises, at), refLeaves(f, raises, at), refBranches(f, raises, at)}; got != want {
		t.Errorf("%s: whether %d raises, leaves, branches: by the reference %v, not %v", name, at, got, want)
	}
}

// span is the numbers from a to b.
func span(a, b int) []int {
	var all []int
	for n := a; n <= b; n++ {
		all = append(all, n)
	}
	return all
}
