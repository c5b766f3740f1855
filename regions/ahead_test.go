package regions_test

import (
	"fmt"
	"math"
	"testing"

	"palisade/api"
	"palisade/regions"
)

// TestJumpsBack (P16.1, P16.2): of functions with a jump that goes back, or to itself, there is nothing to tell.
func TestJumpsBack(t *testing.T) {
	for _, which := range []int{api.OpJump, api.OpUnless} {
		for at := range 6 {
			for to := range 6 {
				f := put(long(6), at, op(which, to))
				name := fmt.Sprint("Op ", which, " from ", at, " to ", to)
				if to <= at {
					nothing(t, name, f, nil)
				} else if got := regions.Of(f, nil, at); got.Join != to || len(got.Places) != (to-at-1)*(which-api.OpJump) {
					t.Errorf("%s: the region is %v", name, got)
				}
			}
		}
		// It needs not be come to, nor stand where is asked.
		nothing(t, "behind an OpReturn", function(op(api.OpUnless, 2), op(api.OpInt), op(api.OpReturn), op(api.OpInt), op(which, 3), op(api.OpReturn)), nil)
		nothing(t, "beside a fork", put(fork(), 4, op(which, 1)), nil)
		nothing(t, "the first place", put(long(3), 0, op(which, 0)), nil)
		nothing(t, "the last place", put(long(api.MaxCode), api.MaxCode-1, op(which, 0)), nil)
	}
}

// TestNumbersOfOthers (P16.1): what doesn't jump goes back by no number.
func TestNumbersOfOthers(t *testing.T) {
	for which := range api.OpReturn + 2 {
		if which == api.OpJump || which == api.OpUnless {
			continue
		}
		f := put(fork(), 4, op(which, 0))
		joins(t, fmt.Sprint("Op ", which, " of 0"), f, nil, 0, 4, 1, 2, 3)
	}
}

// TestJumpsNowhere (P16.1, P16.2): a jump to no place has no way there, as in layer 15, and so none that goes back.
func TestJumpsNowhere(t *testing.T) {
	for _, a := range []int{6, 7, api.MaxCode, 65535, 1 << 32, math.MaxInt64} {
		joins(t, fmt.Sprint("a branch to ", a), put(fork(), 4, op(api.OpUnless, a)), nil, 4, 5)
		joins(t, fmt.Sprint("a jump to ", a), put(fork(), 4, op(api.OpJump, a)), nil, 0, 4, 1, 2, 3)
		holds(t, fmt.Sprint("a jump to ", a), put(fork(), 4, op(api.OpJump, a)), nil, 0, 4, []int{1, 2, 3}, 0)
	}
}

// TestHandlersBack (P16.1, P16.2): of functions with a handler that goes back from a place that it holds, or to that place itself, there is nothing to tell.
func TestHandlersBack(t *testing.T) {
	const n = 6
	for from := range n {
		for to := from + 1; to <= n; to++ {
			for at := range n {
				h := api.Handler{From: from, To: to, At: at}
				for _, f := range []api.Func{handled(put(long(n), to-1, op(api.OpDiv)), h), handled(long(n), api.Handler{From: 5, To: 5, At: 5}, h)} {
					name := fmt.Sprint("a handler from ", from, " to ", to, " at ", at)
					if at < to {
						nothing(t, name, f, nil)
					} else if got := regions.Join(f, nil, from); got == none {
						t.Errorf("%s: there is no join", name)
					}
				}
			}
		}
	}
	nothing(t, "from far to far", handled(fork(), api.Handler{From: math.MinInt, To: math.MaxInt, At: 5}), nil)
	nothing(t, "beside others", handled(fork(), api.Handler{From: 0, To: 2, At: 4}, api.Handler{From: 2, To: 5, At: 5}, api.Handler{From: 3, To: 5, At: 4}), nil)
}

// TestTooLong (P16.1, P16.2): of more than MaxCode instructions there is nothing to tell; of as many there is.
func TestTooLong(t *testing.T) {
	for _, n := range []int{api.MaxCode + 1, api.MaxCode + 2, 70000} {
		nothing(t, fmt.Sprint(n, " instructions"), put(long(n), 0, op(api.OpUnless, 2)), nil)
		nothing(t, fmt.Sprint(n, " instructions, and a handler"), handled(put(long(n), 0, op(api.OpDiv)), api.Handler{From: 0, To: 1, At: 2}), nil)
	}
	f := put(long(api.MaxCode), 0, op(api.OpUnless, 2))
	joins(t, "MaxCode", f, nil, 0, 2, 1)
	makes(t, "MaxCode", f, nil, api.Region{At: 0, Join: 2, Places: []int{1}})
	holds(t, "MaxCode", f, nil, 0, 2, nil, 1)
}
