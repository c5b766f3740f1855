package verify_test

import (
	"fmt"
	"math"
	"slices"
	"testing"

	"palisade/api"
	"palisade/verify"
)

// calls asks for Calls, of the package and of the reference.
func calls(t *testing.T, name string, c api.Class, k int, want ...bool) {
	t.Helper()
	if got := verify.Calls(c, k); !slices.Equal(got, want) {
		t.Errorf("%s: %v is told, not %v", name, got, want)
	}
	if got := refCalls(c, k); !slices.Equal(got, want) {
		t.Errorf("%s: the reference tells %v, not %v", name, got, want)
	}
}

// TestCalls (P17.2): a place is told, if it is an OpCall and a Fun with an Exc is below the top there.
func TestCalls(t *testing.T) {
	raises, quiet := fun(lO, integer(lO), integer(lO), lO, lA), fun(lO, integer(lO), integer(lO), lO, none)
	for _, c := range []struct {
		name  string
		stack []api.Type
		want  bool
	}{
		{"a Fun that raises", list(raises, integer(lO)), true},
		{"one that raises by label 0", list(fun(lO, integer(lO), integer(lO), lO, 0), integer(lO)), true},
		{"one that never raises", list(quiet, integer(lO)), false},
		{"given what raises", list(quiet, raises), false},
		{"given what never raises", list(raises, quiet), true},
		{"over others", list(quiet, quiet, integer(lO), raises, integer(lO)), true},
		{"over others that raise", list(raises, raises, quiet, integer(lO)), false},
		{"no Fun", list(integer(lO), integer(lO)), false},
		{"no Fun, with an Exc", list(api.Type{Kind: api.Ref, Exc: 1}, integer(lO)), false},
		{"no Kind", list(api.Type{Exc: 1}, integer(lO)), false},
		{"a Fun of nothing", list(api.Type{Kind: api.Fun, Exc: 3}, api.Type{}), true},
		{"a Fun of an Exc that is no label", list(api.Type{Kind: api.Fun, Exc: 77}, api.Type{}), true},
		{"a Fun of an Exc below None", list(api.Type{Kind: api.Fun, Exc: -2}, api.Type{}), true},
		{"a Fun of nothing that never raises", list(api.Type{Kind: api.Fun, Exc: none}, api.Type{}), false},
		{"nothing", nil, false},
		{"a Fun alone", list(raises), false},
		{"a Fun on top", list(integer(lO), raises), false},
		{"a long stack", append(repeat(quiet, 30), raises, quiet), true},
	} {
		for which := -1; which <= api.OpReturn+1; which++ {
			for n := range 3 {
				f := api.Func{Code: repeat(op(api.OpCall), n+1), Points: make([]api.Point, n+1)}
				f.Code[n].Op, f.Points[n].Stack = which, c.stack
				want := append(make([]bool, n), which == api.OpCall && c.want)
				for _, l := range []api.Lattice{sets(), single(), {}} {
					calls(t, fmt.Sprint(c.name, ", Op ", which), classOf(l, f), 0, want...)
				}
			}
		}
	}
}

// TestCallsOfEach (P17.2): of each function its own are told, as many as it has instructions.
func TestCallsOfEach(t *testing.T) {
	raises := list(fun(lO, integer(lO), integer(lO), lO, lA), integer(lO))
	var c api.Class
	for k := range 5 {
		f := api.Func{Code: repeat(op(api.OpCall), k), Points: make([]api.Point, k)}
		for at := range k {
			if at%2 == 0 {
				f.Points[at].Stack = raises
			}
		}
		c.Funcs = append(c.Funcs, f)
	}
	for k := range 5 {
		calls(t, fmt.Sprint("function ", k), c, k, []bool{true, false, true, false}[:k]...)
	}
	for _, k := range []int{math.MinInt, math.MinInt32, -2, -1, 5, 6, 60, math.MaxInt32, math.MaxInt} {
		calls(t, fmt.Sprint("number ", k), c, k)
	}
	calls(t, "no functions", api.Class{}, 0)
	for more := -4; more <= 4; more++ {
		if more == 0 {
			continue
		}
		d := roomy(c)
		d.Funcs[4].Points = append(d.Funcs[4].Points, d.Funcs[4].Points...)[:4+more]
		calls(t, fmt.Sprint(more, " points more"), d, 4)
		calls(t, "beside it", d, 3, true, false, true)
	}
}

// TestCallsAreAsked (P17.1, P17.2): of an accepted function the calls that are told are those that may raise: just these need a region.
func TestCallsAreAsked(t *testing.T) {
	for _, exc := range append(labels, none) {
		x := called(lO, lO, lAB, exc, integer(lA))
		x.behind = refState{list(boolean(lAB)), x.slots}
		x.is(t, "OpCall", true)
		c := x.class()
		want := make([]bool, len(c.Funcs[0].Code))
		want[tried] = exc != none
		calls(t, fmt.Sprint("Exc ", exc), c, 0, want...)
		x.regions = []api.Region{}
		x.is(t, fmt.Sprint("Exc ", exc, " without a region"), exc == none)
	}
}
