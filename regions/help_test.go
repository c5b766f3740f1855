package regions_test

import (
	"slices"
	"testing"

	"palisade/api"
	"palisade/regions"
)

const none = api.None

func repeat[T any](v T, n int) []T {
	return slices.Repeat([]T{v}, n)
}

// op is an instruction of that Op and that number.
func op(op int, a ...int) api.Ins {
	i := api.Ins{Op: op}
	if len(a) > 0 {
		i.A = int64(a[0])
	}
	return i
}

func function(code ...api.Ins) api.Func {
	return api.Func{Code: code}
}

// long has n instructions, the last of which is an OpReturn.
func long(n int) api.Func {
	return function(append(repeat(op(api.OpInt, 7), n-1), op(api.OpReturn))...)
}

// put is f with another instruction at that place.
func put(f api.Func, at int, i api.Ins) api.Func {
	f.Code = slices.Clone(f.Code)
	f.Code[at] = i
	return f
}

func handled(f api.Func, all ...api.Handler) api.Func {
	f.Handlers = all
	return f
}

// always are RAISES of n places, all of them true.
func always(n int) []bool {
	return repeat(true, n)
}

// fork is the chapter's example, with an OpReturn behind it.
func fork() api.Func {
	return function(op(api.OpUnless, 3), op(api.OpInt), op(api.OpJump, 4), op(api.OpInt), op(api.OpStore), op(api.OpReturn))
}

// nested has branches one within another (0, and 2 in it), and one behind these (9).
func nested() api.Func {
	return function(
		op(api.OpUnless, 7), op(api.OpLoad), op(api.OpUnless, 5), // 0 to 2
		op(api.OpInt, 1), op(api.OpJump, 6), op(api.OpInt, 2), // 3 to 5: the ways of 2, which join at 6
		op(api.OpJump, 8), op(api.OpInt, 3), op(api.OpLoad), // 6 to 8: 0 joins at 8
		op(api.OpUnless, 11), op(api.OpInt), op(api.OpReturn), // 9 to 11
	)
}

// caught has a division whose handler is at 4, and a call behind it without one.
func caught() api.Func {
	f := function(op(api.OpLoad), op(api.OpDiv), op(api.OpStore), op(api.OpJump, 5), op(api.OpStore), op(api.OpCall), op(api.OpReturn))
	return handled(f, api.Handler{From: 0, To: 3, At: 4})
}

// span is the numbers from a to b.
func span(a, b int) []int {
	var all []int
	for n := a; n <= b; n++ {
		all = append(all, n)
	}
	return all
}

func same(a, b api.Region) bool {
	return a.At == b.At && a.Join == b.Join && slices.Equal(a.Places, b.Places)
}

// joins asks for that join and that region, of the package and of the reference.
func joins(t *testing.T, name string, f api.Func, raises []bool, at, join int, places ...int) {
	t.Helper()
	if got := regions.Join(f, raises, at); got != join {
		t.Errorf("%s: the join of %d is %d, not %d", name, at, got, join)
	}
	want := api.Region{At: at, Join: join, Places: places}
	if got := regions.Of(f, raises, at); !same(got, want) {
		t.Errorf("%s: the region is %v, not %v", name, got, want)
	}
	if len(f.Code) > 100 { // the reference would take too long
		return
	}
	if got := refOf(f, raises, at); !same(got, want) {
		t.Errorf("%s: by the reference the region is %v, not %v", name, got, want)
	}
}

// makes asks for those regions.
func makes(t *testing.T, name string, f api.Func, raises []bool, want ...api.Region) {
	t.Helper()
	if got := regions.Make(f, raises); !slices.EqualFunc(got, want, same) {
		t.Errorf("%s: the regions are %v, not %v", name, got, want)
	}
}

// holds asks for what Holds tells, of the package and of the reference.
func holds(t *testing.T, name string, f api.Func, raises []bool, at, join int, places []int, want int) {
	t.Helper()
	r := api.Region{At: at, Join: join, Places: places}
	if got := regions.Holds(f, raises, r); got != want {
		t.Errorf("%s: of %v it tells %d, not %d", name, r, got, want)
	}
	if got := refHolds(f, raises, r); got != want {
		t.Errorf("%s: of %v the reference tells %d, not %d", name, r, got, want)
	}
}

// nothing asks for what is told of a function whose ways don't all go ahead, or that is too long.
func nothing(t *testing.T, name string, f api.Func, raises []bool) {
	t.Helper()
	n := len(f.Code)
	for _, at := range []int{-1, 0, 1, n / 2, n - 1, n} {
		if got := regions.Join(f, raises, at); got != none {
			t.Errorf("%s: the join of %d is %d", name, at, got)
		}
		if got := regions.Of(f, raises, at); !same(got, api.Region{}) {
			t.Errorf("%s: the region of %d is %v", name, at, got)
		}
		for _, r := range []api.Region{{At: at}, {At: at, Join: none}, {At: at, Join: n, Places: []int{n}}, {At: at, Join: n - 1, Places: span(0, 3)}, {At: at, Join: -7}} {
			if got := regions.Holds(f, raises, r); got != 0 {
				t.Errorf("%s: of %v it tells %d", name, r, got)
			}
		}
	}
	if got := regions.Make(f, raises); len(got) != 0 {
		t.Errorf("%s: the regions are %v", name, got)
	}
}

// asksNoPlace asks what is told of a number that is no place.
func asksNoPlace(t *testing.T, f api.Func, at int) {
	t.Helper()
	n := len(f.Code)
	if got := regions.Join(f, always(n), at); got != none {
		t.Errorf("the join of %d is %d", at, got)
	}
	if got := regions.Of(f, always(n), at); !same(got, api.Region{}) {
		t.Errorf("the region of %d is %v", at, got)
	}
	for _, r := range []api.Region{{At: at}, {At: at, Join: none}, {At: at, Join: n, Places: []int{0}}, {At: at, Join: 0, Places: span(0, n-1)}} {
		if got := regions.Holds(f, always(n), r); got != -1 {
			t.Errorf("of %v it tells %d", r, got)
		}
	}
}
