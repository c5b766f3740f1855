package flow_test

import (
	"fmt"
	"math"
	"testing"

	"palisade/api"
)

// TestHandlerEdges (P15.1): a handler holds from From on, up to ahead of To.
func TestHandlerEdges(t *testing.T) {
	const n = 8
	for from := -1; from <= n+1; from++ {
		for to := -1; to <= n+1; to++ {
			f := handled(long(n), api.Handler{From: from, To: to, At: 5})
			for at := range n {
				want := none
				if at >= from && at < to {
					want = 5
				}
				takes(t, fmt.Sprint("from ", from, " to ", to), f, at, want)
			}
		}
	}
	far := handled(long(n), api.Handler{From: math.MinInt, To: math.MaxInt, At: 3})
	turned := handled(long(n), api.Handler{From: math.MaxInt, To: math.MinInt, At: 3})
	for at := range n {
		takes(t, "of all numbers", far, at, 3)
		takes(t, "of none", turned, at, none)
	}
}

// TestFirstHandler (P15.1): of several that hold a place the first one counts, whichever is narrower.
func TestFirstHandler(t *testing.T) {
	narrow, wide := api.Handler{From: 2, To: 4, At: 6}, api.Handler{From: 1, To: 6, At: 7}
	for at, want := range []int{none, 7, 6, 6, 7, 7, none, none, none} {
		takes(t, "the narrow one ahead", handled(long(9), narrow, wide), at, want)
		takes(t, "and once more behind", handled(long(9), narrow, wide, api.Handler{From: 1, To: 6, At: 8}, narrow), at, want)
	}
	for at, want := range []int{none, 7, 7, 7, 7, 7, none, none, none} {
		takes(t, "the wide one ahead", handled(long(9), wide, narrow), at, want)
	}
	// Ones that hold nothing, or not this place, are gone past.
	idle := []api.Handler{{From: 3, To: 3, At: 8}, {From: 4, To: 2, At: 8}, {From: 4, To: 9, At: 8}, {From: 0, To: 3, At: 8}}
	takes(t, "behind such as don't hold it", handled(long(9), append(idle, narrow, wide)...), 3, 6)
}

// TestHandlerNone (P15.1): there is none where the first one's At is None, also if a later one has another.
func TestHandlerNone(t *testing.T) {
	f := handled(putting(6, 2, op(api.OpDiv)), api.Handler{From: 2, To: 3, At: none}, api.Handler{From: 0, To: 5, At: 5})
	f.Code[3] = op(api.OpDiv)
	takes(t, "None ahead", f, 2, none)
	takes(t, "beside it", f, 3, 5)
	goes(t, "None ahead", f, nil, 2, 3)
	goes(t, "beside it", f, nil, 3, 4, 5)
	says(t, "None ahead", f, nil, 2, true, true, true)
	says(t, "beside it", f, nil, 3, true, false, true)
}

// TestHandlerNowhere (P15.1): an At that is no place is told as it is; it is a handler, so that nothing leaves, but no way leads there.
func TestHandlerNowhere(t *testing.T) {
	for _, at := range []int{math.MinInt, math.MinInt32, -3, -2, 6, 7, 2000, math.MaxInt32, 1 << 32, 1<<32 + 3, math.MaxInt} {
		for _, which := range mayRaise {
			f := handled(putting(6, 2, op(which)), api.Handler{From: 0, To: 6, At: at}, api.Handler{From: 0, To: 6, At: 5})
			name := fmt.Sprint("Op ", which, ", At ", at)
			takes(t, name, f, 2, at)
			if which == api.OpRaise {
				goes(t, name, f, always(6), 2)
			} else {
				goes(t, name, f, always(6), 2, 3)
			}
			says(t, name, f, always(6), 2, true, false, which != api.OpRaise)
		}
	}
}

// TestHandlerOfNoPlace (P15.1): a number that is no place has no handler, whatever handlers say of it.
func TestHandlerOfNoPlace(t *testing.T) {
	for _, n := range []int{0, 1, 5} {
		f := function(repeat(op(api.OpRaise), n)...)
		f.Handlers = []api.Handler{{From: math.MinInt, To: math.MaxInt, At: 0}}
		for _, at := range []int{math.MinInt, math.MinInt32, -2, -1, n, n + 1, 2000, math.MaxInt32, 1 << 32, math.MaxInt - 1, math.MaxInt} {
			takes(t, fmt.Sprint(at, " of ", n), f, at, none)
		}
		for at := range n {
			takes(t, "a place", f, at, 0)
		}
	}
	takes(t, "no handlers", long(3), 1, none)
}

// TestHandlerOfAnyOp (P15.1): a place has its handler whether it raises or not.
func TestHandlerOfAnyOp(t *testing.T) {
	for _, which := range numbers() {
		takes(t, fmt.Sprint("Op ", which), handled(putting(4, 1, op(which, 3)), api.Handler{From: 1, To: 2, At: 3}), 1, 3)
	}
}
